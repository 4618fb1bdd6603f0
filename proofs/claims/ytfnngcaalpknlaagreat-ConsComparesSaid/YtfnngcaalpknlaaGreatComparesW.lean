
/-
 The walk of ConsCompares: true.
-/
import Derived.Test.YtfnngcaalpknlaaGreatBundleN
import Derived.Test.YtfnngcaalpknlaaGreatKref3
import Derived.Test.YtfnngcaalpknlaaGreatKref5
import Derived.Test.YtfnngcaalpknlaaGreatBundleQ


namespace Go.Proofs.YtfnngcaalpknlaaGreat
open Go.ChangeShapes Go.WideShapes Go.ChangeAt Go.RowKit Go.Joins Go.Deep Go.Proofs.YtfnngcaalpknlaaGreat.Num
set_option linter.unusedVariables false
set_option linter.unusedSimpArgs false
set_option maxRecDepth 100000
theorem step_joinW {α : Type} {enc : α → List Value} {k : Nat} {P : Program} {ops : Array Oper} {o : Oper} {a : Act} {K : Act → World → Prop} {Q : Exit → Act → World → Prop} {E : Prop} (hgd : Region.wanted o (yielded ops a.tmps) = true) (s y : Operand) (t : TypeId)
  (ho : o.op = .call { callee := .builtin .append, args := #[s, y], argTypes := #[t, t] })
  {e : TypeId} {i : TypeInfo} {z : Value} {by_ : Nat} (ht : P.underlying t = some (.slice e)) (hi : P.info? e = some i) (hz : i.zero = some z)
  (hsize : i.size = k) (hby : i.bytes = by_) (hzs : z.cells.size = k) (h0 : 0 < k) (hk : ∀ x, (enc x).length = k) (h1 : ∀ x, ∀ u ∈ enc x, u.oneCell' = true) (wr : World) (B : Nat) (v u : Value) (d d2 : List α)
  (hx : Lr enc k wr u d2) (hown : Ow e enc k wr B v d) (hs : a.eval s = v) (hy : a.eval y = u)
  (hlen : d.length + d2.length ≤ 140737488355328) (hb8 : by_ ≤ 1) (hB : B ≤ wr.heap.size)
  (h : ∀ v' w', Ow e enc k w' B v' (d ++ d2) → wr.grownBy w' v.ownBlock → K (a.put o.dst v') w') :
  if Region.wanted o (yielded ops a.tmps) = true then Oper.wp P o a wr K Q else E := by
 rw [if_pos hgd]
 obtain ⟨A, c, rfl, hc1, hc2, hc3⟩ := id hx
 cases A with
 | none =>
  have h0 : d2 = [] := by
   rcases Nat.eq_zero_or_pos d2.length with h | h
   ·exact List.length_eq_zero_iff.1 h
   ·obtain ⟨b, off, e, _⟩ := hc3 h
    cases e
  subst h0
  have hv : ∃ A n c, v = .slice A n c ∧ n ≤ c := by
   rcases hown.form with ⟨rfl, _⟩ | ⟨g, cap, cur, rfl, _, _, _, h, _⟩
   ·exact ⟨none, 0, 0, rfl, Nat.le_refl _⟩
   ·exact ⟨_, _, _, rfl, h⟩
  obtain ⟨A, n, c0, rfl, hnc⟩ := hv
  have hr := run_join0 (P := P) (ty := o.type) ht hi wr A n c0 c hnc
  unfold Oper.wp execOp
  simp only [ho, resolve, invoke, builtin, Sem.run_bind, Sem.run_pure, Result.andThen_ok, List.map_toArray, List.map_cons, List.map_nil, hs, hy, hr, List.length_nil]
  refine h _ _ ?_ (only_refl _ _)
  rw [List.append_nil]
  exact hown
 | some ad =>
  obtain ⟨v', w', hr, h2, h3⟩ := run_joinN (P := P) ht hi hz hsize hby hzs h0 hk h1 o.type wr B v d ad c d2 hx hown hlen hb8 hB
  unfold Oper.wp execOp
  simp only [ho, resolve, invoke, builtin, Sem.run_bind, Sem.run_pure, Result.andThen_ok, List.map_toArray, List.map_cons, List.map_nil, hs, hy, hr]
  exact h v' w' h2 h3.1
theorem bool_alike {a b : Bool} {P : Prop} (h : a = true ↔ P) (k : b = true ↔ P) : a = b := by
 cases a <;> cases b <;> simp_all
theorem info_bo : (Tryz.prog.info? 4).map (fun i => (i.zero, i.size, i.bytes)) = some (some (.bool false), 1, 1) := by kernel_rfl
theorem Kwg.mono {W : World} {B B' : Nat} {k : Kx} {zs : List Zt} {z : Zt} {L : Nat} (h : Kwg W B k zs z L) (hB : B' ≤ B) : Kwg W B' k zs z L :=
 ⟨⟨h.1.1.mono hB, h.1.2.1, fun i x y hx hy => ⟨(h.1.2.2 i x y hx hy).1, (h.1.2.2 i x y hx hy).2.mono hB⟩⟩, h.2.mono hB⟩
theorem Kwg.grownK {W W' : World} {B g : Nat} {k : Kx} {zs : List Zt} {z : Zt} {L : Nat} (h : Kwg W B k zs z L) (hg : W.grownBy W' (some g)) (hk : Kb W g) : Kwg W' B k zs z L := ⟨h.1.grownK hg hk, h.2.grownK hg hk⟩
theorem Kz.oth5 {W : World} {g h : Nat} (z : Kz W h) (hne : h ≠ g) (y : Kx) : Kz (put5 W g y) h := ((((z.other hne _ _).other hne _ _).other hne _ _).other hne _ _).other hne _ _
theorem kw_same {W W' : World} {a q : Kx} {zs : List Zt} {z : Zt} {L M : Nat} (h : Kw W a zs z L) (k : Kw W' q zs z M) : tms q.d = tms a.d ∧ q.x.r = a.x.r ∧ q.d.length = a.d.length :=
 ⟨k.1.tms h.1, k.2.2.1.trans h.2.2.1.symm, k.1.2.1.trans h.1.2.1.symm⟩
def CSt (W0 : World) (sa sb : Int) (zs : List Zt) (z : Zt) (ys : List Zt) (y : Zt) (p q : Option Kx) (g h : Option Nat) (V : World) : Prop :=
 Below W0.heap.size W0 V ∧ (∀ x, p = some x → x.s = sa ∧ Kwg V 0 x zs z 6) ∧ (∀ x, q = some x → x.s = sb ∧ Kwg V 0 x ys y 6) ∧ (∀ j, g = some j → Kz V j ∧ W0.heap.size ≤ j) ∧ (∀ j, h = some j → Kz V j ∧ W0.heap.size ≤ j) ∧ ∀ i j, g = some i → h = some j → i ≠ j
def CpTwo (W0 : World) (sa sb : Int) (zs : List Zt) (z : Zt) (ys : List Zt) (y : Zt) (s7 s8 : Value) (wx : World) : Prop :=
 ∃ (g h : Nat) (p q : Kx), s7 = .pointer (some ⟨g, 0, none⟩) ∧ s8 = .pointer (some ⟨h, 0, none⟩) ∧ Kq wx g p ∧ Kq wx h q ∧ (p.s = sa ∧ Kw wx p zs z 6) ∧ (q.s = sb ∧ Kw wx q ys y 6) ∧ Below W0.heap.size W0 wx
section
variable {W0 V V' : World} {sa sb : Int} {zs ys : List Zt} {z y : Zt} {p q : Option Kx} {g h : Option Nat}
theorem CSt.start (W : World) : CSt W sa sb zs z ys y none none none none W.drew :=
 ⟨(Below.refl _ _).drew, fun _ e => (by cases e), fun _ e => (by cases e), fun _ e => (by cases e), fun _ e => (by cases e), fun _ _ e => by cases e⟩
theorem CSt.step (k : CSt W0 sa sb zs z ys y p q g h V) (bx : Below V.heap.size V V') : CSt W0 sa sb zs z ys y p q g h V' :=
 ⟨Below.step k.1 k.1.size bx, fun x e => ⟨(k.2.1 x e).1, (k.2.1 x e).2.step bx⟩, fun x e => ⟨(k.2.2.1 x e).1, (k.2.2.1 x e).2.step bx⟩, fun j e => ⟨(k.2.2.2.1 j e).1.step bx, (k.2.2.2.1 j e).2⟩, fun j e => ⟨(k.2.2.2.2.1 j e).1.step bx, (k.2.2.2.2.1 j e).2⟩, k.2.2.2.2.2⟩
theorem CSt.one (k : CSt W0 sa sb zs z ys y none q g h V) (bx : Below V.heap.size V V') {x : Kx} (hs : x.s = sa) {B : Nat} (hr : Kwg V' B x zs z 6) : CSt W0 sa sb zs z ys y (some x) q g h V' := by
 have s := k.step bx
 exact ⟨s.1, fun y e => by cases e; exact ⟨hs, hr.mono (Nat.zero_le _)⟩, s.2.2⟩
theorem CSt.two (k : CSt W0 sa sb zs z ys y p none g h V) (bx : Below V.heap.size V V') {x : Kx} (hs : x.s = sb) {B : Nat} (hr : Kwg V' B x ys y 6) : CSt W0 sa sb zs z ys y p (some x) g h V' := by
 have s := k.step bx
 exact ⟨s.1, s.2.1, fun y e => by cases e; exact ⟨hs, hr.mono (Nat.zero_le _)⟩, s.2.2.2⟩
theorem CSt.al1 (k : CSt W0 sa sb zs z ys y p q none h V) : CSt W0 sa sb zs z ys y p q (some V.heap.size) h (V.alloc kblk) := by
 have s := k.step ((Below.refl _ _).alloc (Nat.le_refl _) kblk)
 refine ⟨s.1, s.2.1, s.2.2.1, fun j e => by cases e; exact ⟨Kz.new V, k.1.size⟩, s.2.2.2.2.1, fun i j e e' => ?_⟩
 cases e
 have := (k.2.2.2.2.1 j e').1.lt
 omega
theorem CSt.al2 (k : CSt W0 sa sb zs z ys y p q g none V) : CSt W0 sa sb zs z ys y p q g (some V.heap.size) (V.alloc kblk) := by
 have s := k.step ((Below.refl _ _).alloc (Nat.le_refl _) kblk)
 refine ⟨s.1, s.2.1, s.2.2.1, s.2.2.2.1, fun j e => by cases e; exact ⟨Kz.new V, k.1.size⟩, fun i j e e' => ?_⟩
 cases e'
 have := (k.2.2.2.1 i e).1.lt
 omega
theorem CSt.cp1 {a : Kx} (k : CSt W0 a.s sb zs z ys y none q g h V) (hk : Kw W0 a zs z 6) (hn : a.d.length ≤ 30) : Calls Tryz.prog 33 #[kx a] V fun e w' => ∃ x : Kx, e = .returned (kx x) ∧ CSt W0 a.s sb zs z ys y (some x) q g h w' :=
 (kcopy_w (hk.step k.1) (by omega) (by omega)).mono fun e w' ⟨x, h1, h2, h3, bx⟩ => ⟨x, h1, k.one bx h2 h3⟩
theorem CSt.cp2 {b : Kx} (k : CSt W0 sa b.s zs z ys y p none g h V) (hk : Kw W0 b ys y 6) (hn : b.d.length ≤ 30) : Calls Tryz.prog 33 #[kx b] V fun e w' => ∃ x : Kx, e = .returned (kx x) ∧ CSt W0 sa b.s zs z ys y p (some x) g h w' :=
 (kcopy_w (hk.step k.1) (by omega) (by omega)).mono fun e w' ⟨x, h1, h2, h3, bx⟩ => ⟨x, h1, k.two bx h2 h3⟩
theorem CSt.put1 {i j : Nat} {x u : Kx} (k : CSt W0 sa sb zs z ys y (some x) (some u) (some i) (some j) V) :
  ∃ V', (((((V.setCell ⟨i, 0, none⟩ (.int .i64 x.s)).setCell ⟨i, 1, none⟩ (sv x.v)).setCell ⟨i, 2, none⟩ (.bool x.x.s)).setCell ⟨i, 3, none⟩ (sv x.x.u)).setCell ⟨i, 4, none⟩ (sv x.x.t)) = V' ∧ (V.cell? ⟨i, 0, none⟩ = some (.int .i64 0) ∧ V.cell? ⟨i, 1, none⟩ = some (.slice none 0 0) ∧ V.cell? ⟨i, 2, none⟩ = some (.bool false) ∧ V.cell? ⟨i, 3, none⟩ = some (.slice none 0 0) ∧ V.cell? ⟨i, 4, none⟩ = some (.slice none 0 0)) ∧
   (V.frozen? ⟨i, 0, none⟩ = false ∧ V.frozen? ⟨i, 1, none⟩ = false ∧ V.frozen? ⟨i, 2, none⟩ = false ∧ V.frozen? ⟨i, 3, none⟩ = false ∧ V.frozen? ⟨i, 4, none⟩ = false) ∧
   (Kq V' i x ∧ CSt W0 sa sb zs z ys y (some x) (some u) none (some j) V' ∧ i ≠ j) := by
 obtain ⟨b, hp, hq, hg, hh, hne⟩ := k
 obtain ⟨Z, lg⟩ := hg i rfl
 have gr := only_put5 V i (.int .i64 x.s) (sv x.v) (.bool x.x.s) (sv x.x.u) (sv x.x.t)
 refine ⟨_, rfl, Z.all, ⟨Z.fz 0, Z.fz 1, Z.fz 2, Z.fz 3, Z.fz 4⟩, put5_heap Z rfl _ _ _ _ _, ⟨below_put5 b lg _ _ _ _ _, fun v e => ?_, fun v e => ?_, fun _ e => (by cases e), fun l e => ?_, fun _ _ e => (by cases e)⟩, hne i j rfl rfl⟩
 ·exact ⟨(hp v e).1, (hp v e).2.grownK gr Z.kb⟩
 ·exact ⟨(hq v e).1, (hq v e).2.grownK gr Z.kb⟩
 ·exact ⟨(hh l e).1.oth5 (fun h => hne i l rfl e h.symm) _, (hh l e).2⟩
theorem CSt.put2 {i j : Nat} {x u : Kx} (k : CSt W0 sa sb zs z ys y (some x) (some u) none (some j) V) (hi1 : Kq V i x) (hne : i ≠ j) :
  ∃ V', (((((V.setCell ⟨j, 0, none⟩ (.int .i64 u.s)).setCell ⟨j, 1, none⟩ (sv u.v)).setCell ⟨j, 2, none⟩ (.bool u.x.s)).setCell ⟨j, 3, none⟩ (sv u.x.u)).setCell ⟨j, 4, none⟩ (sv u.x.t)) = V' ∧ (V.cell? ⟨j, 0, none⟩ = some (.int .i64 0) ∧ V.cell? ⟨j, 1, none⟩ = some (.slice none 0 0) ∧ V.cell? ⟨j, 2, none⟩ = some (.bool false) ∧ V.cell? ⟨j, 3, none⟩ = some (.slice none 0 0) ∧ V.cell? ⟨j, 4, none⟩ = some (.slice none 0 0)) ∧
   (V.frozen? ⟨j, 0, none⟩ = false ∧ V.frozen? ⟨j, 1, none⟩ = false ∧ V.frozen? ⟨j, 2, none⟩ = false ∧ V.frozen? ⟨j, 3, none⟩ = false ∧ V.frozen? ⟨j, 4, none⟩ = false) ∧
   CpTwo W0 sa sb zs z ys y (.pointer (some ⟨i, 0, none⟩)) (.pointer (some ⟨j, 0, none⟩)) V' := by
 obtain ⟨b, hp, hq, hg, hh, -⟩ := k
 obtain ⟨Z, lg⟩ := hh j rfl
 have gr := only_put5 V j (.int .i64 u.s) (sv u.v) (.bool u.x.s) (sv u.x.u) (sv u.x.t)
 exact ⟨_, rfl, Z.all, ⟨Z.fz 0, Z.fz 1, Z.fz 2, Z.fz 3, Z.fz 4⟩, i, j, x, u, rfl, rfl, hi1.oth5 hne u, put5_heap Z rfl _ _ _ _ _, ⟨(hp x rfl).1, ((hp x rfl).2.grownK gr Z.kb).kw⟩, ⟨(hq u rfl).1, ((hq u rfl).2.grownK gr Z.kb).kw⟩, below_put5 b lg _ _ _ _ _⟩
theorem CpTwo.below {s7 s8 : Value} (h : CpTwo W0 sa sb zs z ys y s7 s8 V) : Below W0.heap.size W0 V := by
 obtain ⟨g, h, p, q, -, -, -, -, -, -, h⟩ := h
 exact h
end
set_option maxHeartbeats 16000000 in
theorem compares_go (w : World) (a b : Kx) (v : Value) (fl : List Bool) (ha : Kv w a 17592186043904 ∧ -9223372036854775808 ≤ a.s ∧ a.s ≤ 9223372036854775807) (hb : Kv w b 17592186043904 ∧ -9223372036854775808 ≤ b.s ∧ b.s ≤ 9223372036854775807) (hv : Lr eb1 1 w v fl ∧ fl.length ≤ 140737488351232) :
  Calls Tryz.prog 6 #[kx a, kx b, v] w fun e w' => e = .returned (.bool true) ∧ Below w.heap.size w w' := by
 obtain ⟨hv, hnv⟩ := hv
 have NV := hide hnv
 obtain ⟨hb, hsb⟩ := hb
 have SB := hide hsb
 obtain ⟨A1, n1, c1, rfl⟩ := rv_sl hv
 obtain ⟨P, P2, B⟩ := kq_two w a b
 have HA := hide (ha.1.step B)
 have HB := hide (hb.step B)
 have HV := hide (hv.step B)
 replace P := hide P
 replace P2 := hide P2
 replace B := hide B
 clear ha hb hv hnv hsb
 go_enter Tryz.func6, Tryz.ntmps6
 go_wp2_with fail
 generalize ((w.alloc (kbox a)).alloc (kbox b)) = w0 at *
 refine (kspeaks_true _).mono ?_
 rintro e wx ⟨rfl, bx⟩
 replace P := hide (P.out.step bx)
 replace P2 := hide (P2.out.step bx)
 replace HA := hide (HA.out.step bx)
 replace HB := hide (HB.out.step bx)
 replace HV := hide (HV.out.step bx)
 replace B := hide (Below.step B.out B.out.size bx)
 clear bx
 obtain ⟨p0, p1, p2, p3, p4⟩ := P.out.all
 obtain ⟨q0, q1, q2, q3, q4⟩ := P2.out.all
 have bx := alloc_below wx (.cells #[.int .i64 a.s, sv a.v, .bool a.x.s, sv a.x.u, sv a.x.t, .int .i64 b.s, sv b.v, .bool b.x.s, sv b.x.u, sv b.x.t] 54)
 have KL := hide (show Kl (wx.alloc (.cells #[.int .i64 a.s, sv a.v, .bool a.x.s, sv a.x.u, sv a.x.t, .int .i64 b.s, sv b.v, .bool b.x.s, sv b.x.u, sv b.x.t] 54)) (.slice (some ⟨wx.heap.size, 0, none⟩) 2 2) [a, b] 17592186043904 from
  ⟨(Ow.lit (B := wx.heap.size) ek_len wx 54 [a, b] #[.int .i64 a.s, sv a.v, .bool a.x.s, sv a.x.u, sv a.x.t, .int .i64 b.s, sv b.v, .bool b.x.s, sv b.x.u, sv b.x.t] rfl (Nat.le_refl _) (by simp [maxLen])).rl ek_len, fun k hk => by
   simp at hk
   rcases hk with rfl | rfl
   ·exact HA.out.step bx
   ·exact HB.out.step bx⟩)
 replace P := hide (P.out.step bx)
 replace P2 := hide (P2.out.step bx)
 replace HA := hide (HA.out.step bx)
 replace HB := hide (HB.out.step bx)
 replace HV := hide (HV.out.step bx)
 replace B := hide (Below.step B.out B.out.size bx)
 clear bx
 go_wp2_with fail
 clear p0 p1 p2 p3 p4 q0 q1 q2 q3 q4
 generalize (wx.alloc (.cells #[.int .i64 a.s, sv a.v, .bool a.x.s, sv a.x.u, sv a.x.t, .int .i64 b.s, sv b.v, .bool b.x.s, sv b.x.u, sv b.x.t] 54)) = w2 at *
 generalize wx.heap.size = gl at *
 refine (kgreat_c KL.out (by omega)).mono ?_
 rintro e w3 ⟨bx, o, rfl, ho⟩
 have HO := hide ho
 clear ho KL
 replace P := hide (P.out.step bx)
 replace P2 := hide (P2.out.step bx)
 replace HA := hide (HA.out.step bx)
 replace HB := hide (HB.out.step bx)
 replace HV := hide (HV.out.step bx)
 replace B := hide (Below.step B.out B.out.size bx)
 clear bx
 cases o
 case true =>
  go_wp2_with fail
  go_ret
  exact ⟨rfl, B.out⟩
 have OA := hide ((HO.out rfl).2 a (by simp))
 have OB := hide ((HO.out rfl).2 b (by simp))
 replace HA := hide (HA.out.tight OA.out)
 replace HB := hide (HB.out.tight OB.out)
 clear HO
 obtain ⟨zs, z, hw⟩ := kw_of HA.out
 have WA := hide hw
 obtain ⟨ys, y, hy⟩ := kw_of HB.out
 have WB := hide hy
 clear hw hy
 go_wp2_with fail
 go_cut [7, 8] (fun s7 s8 wx => CpTwo w3 a.s b.s zs z ys y s7 s8 wx)
 case first =>
  have st := hide (CSt.start (sa := a.s) (sb := b.s) (zs := zs) (z := z) (ys := ys) (y := y) w3)
  have KP := hide (show ∀ V, Below w3.heap.size w3 V → _ ∧ _ from fun V h => And.intro (P.out.step h).all (P2.out.step h).all)
  refine wp_region_held_drew (S := fun W => (W.cell? ⟨w.heap.size, 0, none⟩ = some (.int .i64 a.s) ∧ W.cell? ⟨w.heap.size, 1, none⟩ = some (sv a.v) ∧ W.cell? ⟨w.heap.size, 2, none⟩ = some (.bool a.x.s) ∧ W.cell? ⟨w.heap.size, 3, none⟩ = some (sv a.x.u) ∧ W.cell? ⟨w.heap.size, 4, none⟩ = some (sv a.x.t)) ∧ (W.cell? ⟨w.heap.size + 1, 0, none⟩ = some (.int .i64 b.s) ∧ W.cell? ⟨w.heap.size + 1, 1, none⟩ = some (sv b.v) ∧ W.cell? ⟨w.heap.size + 1, 2, none⟩ = some (.bool b.x.s) ∧ W.cell? ⟨w.heap.size + 1, 3, none⟩ = some (sv b.x.u) ∧ W.cell? ⟨w.heap.size + 1, 4, none⟩ = some (sv b.x.t))) (by kernel_rfl) ?_ (fun hHeld => ?_)
  ·try dsimp only
   exact ⟨P.out.dr.all, P2.out.dr.all⟩
  generalize w3.drew = V0 at *
  refine tk 0 (v := ?_) hHeld ?_ ?_; rotate_left; (focus (intro w hSw; (try dsimp only at hSw); go_simp; (try with_reducible rfl)))
  refine tk 2 (v := ?_) hHeld ?_ ?_; rotate_left; (focus (intro w hSw; (try dsimp only at hSw); go_simp; (try with_reducible rfl)))
  try simp only [Act.put, s1, s2, s3, s4, s5, s6]
  refine r3 1 4 5 (fun K hK => ?_) (fun K hK => ?_) (fun K hK => ?_)
  ·go_simp; go_at_call 33; refine (st.out.cp1 WA.out OA.out.1).mono ?_; rintro e V1 ⟨x, rfl, h⟩; replace st := hide h; clear h; refine hK.out _ _ (KP.out _ st.out.1) (fun hHeld => ?_); clear hK K
   try simp only [Act.put, s1, s2, s3, s4, s5, s6]
   refine r3 3 4 5 (fun K hK => ?_) (fun K hK => ?_) (fun K hK => ?_)
   ·go_simp; go_at_call 33; refine (st.out.cp2 WB.out OB.out.1).mono ?_; rintro e V2 ⟨u, rfl, h⟩; replace st := hide h; clear h; refine hK.out _ _ (KP.out _ st.out.1) (fun hHeld => ?_); clear hK K
    try simp only [Act.put, s1, s2, s3, s4, s5, s6]
    refine r2 4 5 (fun K hK => ?_) (fun K hK => ?_)
    ·go_simp; replace st := hide st.out.al1; generalize (V2.alloc kblk) = V3 at *; generalize V2.heap.size = g7 at *; refine hK.out _ _ (KP.out _ st.out.1) (fun hHeld => ?_); clear hK K
     try simp only [Act.put, s1, s2, s3, s4, s5, s6]
     refine r1 5 (fun K hK => ?_)
     go_simp; replace st := hide st.out.al2; generalize (V3.alloc kblk) = V4 at *; generalize V3.heap.size = g8 at *; refine hK.out _ _ (KP.out _ st.out.1) (fun hHeld => ?_); clear hK K
     try simp only [Act.put, s1, s2, s3, s4, s5, s6]
     refine r1 6 (fun K hK => ?_)
     obtain ⟨V5, hV, ⟨k0, k1, k2, k3, k4⟩, ⟨f0, f1, f2, f3, f4⟩, h⟩ := st.out.put1; go_simp; (try rw [hV]); have S1 := hide h; clear hV k0 k1 k2 k3 k4 f0 f1 f2 f3 f4 h; refine hK.out _ _ (KP.out _ S1.out.2.1.1) (fun hHeld => ?_); clear hK K
     try simp only [Act.put, s1, s2, s3, s4, s5, s6]
     refine r1 7 (fun K hK => ?_)
     obtain ⟨V6, hV, ⟨k0, k1, k2, k3, k4⟩, ⟨f0, f1, f2, f3, f4⟩, h⟩ := S1.out.2.1.put2 S1.out.1 S1.out.2.2; go_simp; (try rw [hV]); have FN := hide h; clear hV k0 k1 k2 k3 k4 f0 f1 f2 f3 f4 h; refine hK.out _ _ (KP.out _ FN.out.below) (fun hHeld => ?_); clear hK K
     refine wpAnyH_done (by kernel_rfl) ?_ _
     go_wp2_with fail; go_meet; exact FN.out
    ·go_simp; replace st := hide st.out.al2; generalize (V2.alloc kblk) = V3 at *; generalize V2.heap.size = g8 at *; refine hK.out _ _ (KP.out _ st.out.1) (fun hHeld => ?_); clear hK K
     try simp only [Act.put, s1, s2, s3, s4, s5, s6]
     refine r1 4 (fun K hK => ?_)
     go_simp; replace st := hide st.out.al1; generalize (V3.alloc kblk) = V4 at *; generalize V3.heap.size = g7 at *; refine hK.out _ _ (KP.out _ st.out.1) (fun hHeld => ?_); clear hK K
     try simp only [Act.put, s1, s2, s3, s4, s5, s6]
     refine r1 6 (fun K hK => ?_)
     obtain ⟨V5, hV, ⟨k0, k1, k2, k3, k4⟩, ⟨f0, f1, f2, f3, f4⟩, h⟩ := st.out.put1; go_simp; (try rw [hV]); have S1 := hide h; clear hV k0 k1 k2 k3 k4 f0 f1 f2 f3 f4 h; refine hK.out _ _ (KP.out _ S1.out.2.1.1) (fun hHeld => ?_); clear hK K
     try simp only [Act.put, s1, s2, s3, s4, s5, s6]
     refine r1 7 (fun K hK => ?_)
     obtain ⟨V6, hV, ⟨k0, k1, k2, k3, k4⟩, ⟨f0, f1, f2, f3, f4⟩, h⟩ := S1.out.2.1.put2 S1.out.1 S1.out.2.2; go_simp; (try rw [hV]); have FN := hide h; clear hV k0 k1 k2 k3 k4 f0 f1 f2 f3 f4 h; refine hK.out _ _ (KP.out _ FN.out.below) (fun hHeld => ?_); clear hK K
     refine wpAnyH_done (by kernel_rfl) ?_ _
     go_wp2_with fail; go_meet; exact FN.out
   ·go_simp; replace st := hide st.out.al1; generalize (V1.alloc kblk) = V2 at *; generalize V1.heap.size = g7 at *; refine hK.out _ _ (KP.out _ st.out.1) (fun hHeld => ?_); clear hK K
    try simp only [Act.put, s1, s2, s3, s4, s5, s6]
    refine r2 3 5 (fun K hK => ?_) (fun K hK => ?_)
    ·go_simp; go_at_call 33; refine (st.out.cp2 WB.out OB.out.1).mono ?_; rintro e V3 ⟨u, rfl, h⟩; replace st := hide h; clear h; refine hK.out _ _ (KP.out _ st.out.1) (fun hHeld => ?_); clear hK K
     try simp only [Act.put, s1, s2, s3, s4, s5, s6]
     refine r1 5 (fun K hK => ?_)
     go_simp; replace st := hide st.out.al2; generalize (V3.alloc kblk) = V4 at *; generalize V3.heap.size = g8 at *; refine hK.out _ _ (KP.out _ st.out.1) (fun hHeld => ?_); clear hK K
     try simp only [Act.put, s1, s2, s3, s4, s5, s6]
     refine r1 6 (fun K hK => ?_)
     obtain ⟨V5, hV, ⟨k0, k1, k2, k3, k4⟩, ⟨f0, f1, f2, f3, f4⟩, h⟩ := st.out.put1; go_simp; (try rw [hV]); have S1 := hide h; clear hV k0 k1 k2 k3 k4 f0 f1 f2 f3 f4 h; refine hK.out _ _ (KP.out _ S1.out.2.1.1) (fun hHeld => ?_); clear hK K
     try simp only [Act.put, s1, s2, s3, s4, s5, s6]
     refine r1 7 (fun K hK => ?_)
     obtain ⟨V6, hV, ⟨k0, k1, k2, k3, k4⟩, ⟨f0, f1, f2, f3, f4⟩, h⟩ := S1.out.2.1.put2 S1.out.1 S1.out.2.2; go_simp; (try rw [hV]); have FN := hide h; clear hV k0 k1 k2 k3 k4 f0 f1 f2 f3 f4 h; refine hK.out _ _ (KP.out _ FN.out.below) (fun hHeld => ?_); clear hK K
     refine wpAnyH_done (by kernel_rfl) ?_ _
     go_wp2_with fail; go_meet; exact FN.out
    ·go_simp; replace st := hide st.out.al2; generalize (V2.alloc kblk) = V3 at *; generalize V2.heap.size = g8 at *; refine hK.out _ _ (KP.out _ st.out.1) (fun hHeld => ?_); clear hK K
     try simp only [Act.put, s1, s2, s3, s4, s5, s6]
     refine r1 3 (fun K hK => ?_)
     go_simp; go_at_call 33; refine (st.out.cp2 WB.out OB.out.1).mono ?_; rintro e V4 ⟨u, rfl, h⟩; replace st := hide h; clear h; refine hK.out _ _ (KP.out _ st.out.1) (fun hHeld => ?_); clear hK K
     try simp only [Act.put, s1, s2, s3, s4, s5, s6]
     refine r1 6 (fun K hK => ?_)
     obtain ⟨V5, hV, ⟨k0, k1, k2, k3, k4⟩, ⟨f0, f1, f2, f3, f4⟩, h⟩ := st.out.put1; go_simp; (try rw [hV]); have S1 := hide h; clear hV k0 k1 k2 k3 k4 f0 f1 f2 f3 f4 h; refine hK.out _ _ (KP.out _ S1.out.2.1.1) (fun hHeld => ?_); clear hK K
     try simp only [Act.put, s1, s2, s3, s4, s5, s6]
     refine r1 7 (fun K hK => ?_)
     obtain ⟨V6, hV, ⟨k0, k1, k2, k3, k4⟩, ⟨f0, f1, f2, f3, f4⟩, h⟩ := S1.out.2.1.put2 S1.out.1 S1.out.2.2; go_simp; (try rw [hV]); have FN := hide h; clear hV k0 k1 k2 k3 k4 f0 f1 f2 f3 f4 h; refine hK.out _ _ (KP.out _ FN.out.below) (fun hHeld => ?_); clear hK K
     refine wpAnyH_done (by kernel_rfl) ?_ _
     go_wp2_with fail; go_meet; exact FN.out
   ·go_simp; replace st := hide st.out.al2; generalize (V1.alloc kblk) = V2 at *; generalize V1.heap.size = g8 at *; refine hK.out _ _ (KP.out _ st.out.1) (fun hHeld => ?_); clear hK K
    try simp only [Act.put, s1, s2, s3, s4, s5, s6]
    refine r2 3 4 (fun K hK => ?_) (fun K hK => ?_)
    ·go_simp; go_at_call 33; refine (st.out.cp2 WB.out OB.out.1).mono ?_; rintro e V3 ⟨u, rfl, h⟩; replace st := hide h; clear h; refine hK.out _ _ (KP.out _ st.out.1) (fun hHeld => ?_); clear hK K
     try simp only [Act.put, s1, s2, s3, s4, s5, s6]
     refine r1 4 (fun K hK => ?_)
     go_simp; replace st := hide st.out.al1; generalize (V3.alloc kblk) = V4 at *; generalize V3.heap.size = g7 at *; refine hK.out _ _ (KP.out _ st.out.1) (fun hHeld => ?_); clear hK K
     try simp only [Act.put, s1, s2, s3, s4, s5, s6]
     refine r1 6 (fun K hK => ?_)
     obtain ⟨V5, hV, ⟨k0, k1, k2, k3, k4⟩, ⟨f0, f1, f2, f3, f4⟩, h⟩ := st.out.put1; go_simp; (try rw [hV]); have S1 := hide h; clear hV k0 k1 k2 k3 k4 f0 f1 f2 f3 f4 h; refine hK.out _ _ (KP.out _ S1.out.2.1.1) (fun hHeld => ?_); clear hK K
     try simp only [Act.put, s1, s2, s3, s4, s5, s6]
     refine r1 7 (fun K hK => ?_)
     obtain ⟨V6, hV, ⟨k0, k1, k2, k3, k4⟩, ⟨f0, f1, f2, f3, f4⟩, h⟩ := S1.out.2.1.put2 S1.out.1 S1.out.2.2; go_simp; (try rw [hV]); have FN := hide h; clear hV k0 k1 k2 k3 k4 f0 f1 f2 f3 f4 h; refine hK.out _ _ (KP.out _ FN.out.below) (fun hHeld => ?_); clear hK K
     refine wpAnyH_done (by kernel_rfl) ?_ _
     go_wp2_with fail; go_meet; exact FN.out
    ·go_simp; replace st := hide st.out.al1; generalize (V2.alloc kblk) = V3 at *; generalize V2.heap.size = g7 at *; refine hK.out _ _ (KP.out _ st.out.1) (fun hHeld => ?_); clear hK K
     try simp only [Act.put, s1, s2, s3, s4, s5, s6]
     refine r1 3 (fun K hK => ?_)
     go_simp; go_at_call 33; refine (st.out.cp2 WB.out OB.out.1).mono ?_; rintro e V4 ⟨u, rfl, h⟩; replace st := hide h; clear h; refine hK.out _ _ (KP.out _ st.out.1) (fun hHeld => ?_); clear hK K
     try simp only [Act.put, s1, s2, s3, s4, s5, s6]
     refine r1 6 (fun K hK => ?_)
     obtain ⟨V5, hV, ⟨k0, k1, k2, k3, k4⟩, ⟨f0, f1, f2, f3, f4⟩, h⟩ := st.out.put1; go_simp; (try rw [hV]); have S1 := hide h; clear hV k0 k1 k2 k3 k4 f0 f1 f2 f3 f4 h; refine hK.out _ _ (KP.out _ S1.out.2.1.1) (fun hHeld => ?_); clear hK K
     try simp only [Act.put, s1, s2, s3, s4, s5, s6]
     refine r1 7 (fun K hK => ?_)
     obtain ⟨V6, hV, ⟨k0, k1, k2, k3, k4⟩, ⟨f0, f1, f2, f3, f4⟩, h⟩ := S1.out.2.1.put2 S1.out.1 S1.out.2.2; go_simp; (try rw [hV]); have FN := hide h; clear hV k0 k1 k2 k3 k4 f0 f1 f2 f3 f4 h; refine hK.out _ _ (KP.out _ FN.out.below) (fun hHeld => ?_); clear hK K
     refine wpAnyH_done (by kernel_rfl) ?_ _
     go_wp2_with fail; go_meet; exact FN.out
  ·go_simp; replace st := hide st.out.al1; generalize (V0.alloc kblk) = V1 at *; generalize V0.heap.size = g7 at *; refine hK.out _ _ (KP.out _ st.out.1) (fun hHeld => ?_); clear hK K
   try simp only [Act.put, s1, s2, s3, s4, s5, s6]
   refine r2 1 5 (fun K hK => ?_) (fun K hK => ?_)
   ·go_simp; go_at_call 33; refine (st.out.cp1 WA.out OA.out.1).mono ?_; rintro e V2 ⟨x, rfl, h⟩; replace st := hide h; clear h; refine hK.out _ _ (KP.out _ st.out.1) (fun hHeld => ?_); clear hK K
    try simp only [Act.put, s1, s2, s3, s4, s5, s6]
    refine r2 3 5 (fun K hK => ?_) (fun K hK => ?_)
    ·go_simp; go_at_call 33; refine (st.out.cp2 WB.out OB.out.1).mono ?_; rintro e V3 ⟨u, rfl, h⟩; replace st := hide h; clear h; refine hK.out _ _ (KP.out _ st.out.1) (fun hHeld => ?_); clear hK K
     try simp only [Act.put, s1, s2, s3, s4, s5, s6]
     refine r1 5 (fun K hK => ?_)
     go_simp; replace st := hide st.out.al2; generalize (V3.alloc kblk) = V4 at *; generalize V3.heap.size = g8 at *; refine hK.out _ _ (KP.out _ st.out.1) (fun hHeld => ?_); clear hK K
     try simp only [Act.put, s1, s2, s3, s4, s5, s6]
     refine r1 6 (fun K hK => ?_)
     obtain ⟨V5, hV, ⟨k0, k1, k2, k3, k4⟩, ⟨f0, f1, f2, f3, f4⟩, h⟩ := st.out.put1; go_simp; (try rw [hV]); have S1 := hide h; clear hV k0 k1 k2 k3 k4 f0 f1 f2 f3 f4 h; refine hK.out _ _ (KP.out _ S1.out.2.1.1) (fun hHeld => ?_); clear hK K
     try simp only [Act.put, s1, s2, s3, s4, s5, s6]
     refine r1 7 (fun K hK => ?_)
     obtain ⟨V6, hV, ⟨k0, k1, k2, k3, k4⟩, ⟨f0, f1, f2, f3, f4⟩, h⟩ := S1.out.2.1.put2 S1.out.1 S1.out.2.2; go_simp; (try rw [hV]); have FN := hide h; clear hV k0 k1 k2 k3 k4 f0 f1 f2 f3 f4 h; refine hK.out _ _ (KP.out _ FN.out.below) (fun hHeld => ?_); clear hK K
     refine wpAnyH_done (by kernel_rfl) ?_ _
     go_wp2_with fail; go_meet; exact FN.out
    ·go_simp; replace st := hide st.out.al2; generalize (V2.alloc kblk) = V3 at *; generalize V2.heap.size = g8 at *; refine hK.out _ _ (KP.out _ st.out.1) (fun hHeld => ?_); clear hK K
     try simp only [Act.put, s1, s2, s3, s4, s5, s6]
     refine r1 3 (fun K hK => ?_)
     go_simp; go_at_call 33; refine (st.out.cp2 WB.out OB.out.1).mono ?_; rintro e V4 ⟨u, rfl, h⟩; replace st := hide h; clear h; refine hK.out _ _ (KP.out _ st.out.1) (fun hHeld => ?_); clear hK K
     try simp only [Act.put, s1, s2, s3, s4, s5, s6]
     refine r1 6 (fun K hK => ?_)
     obtain ⟨V5, hV, ⟨k0, k1, k2, k3, k4⟩, ⟨f0, f1, f2, f3, f4⟩, h⟩ := st.out.put1; go_simp; (try rw [hV]); have S1 := hide h; clear hV k0 k1 k2 k3 k4 f0 f1 f2 f3 f4 h; refine hK.out _ _ (KP.out _ S1.out.2.1.1) (fun hHeld => ?_); clear hK K
     try simp only [Act.put, s1, s2, s3, s4, s5, s6]
     refine r1 7 (fun K hK => ?_)
     obtain ⟨V6, hV, ⟨k0, k1, k2, k3, k4⟩, ⟨f0, f1, f2, f3, f4⟩, h⟩ := S1.out.2.1.put2 S1.out.1 S1.out.2.2; go_simp; (try rw [hV]); have FN := hide h; clear hV k0 k1 k2 k3 k4 f0 f1 f2 f3 f4 h; refine hK.out _ _ (KP.out _ FN.out.below) (fun hHeld => ?_); clear hK K
     refine wpAnyH_done (by kernel_rfl) ?_ _
     go_wp2_with fail; go_meet; exact FN.out
   ·go_simp; replace st := hide st.out.al2; generalize (V1.alloc kblk) = V2 at *; generalize V1.heap.size = g8 at *; refine hK.out _ _ (KP.out _ st.out.1) (fun hHeld => ?_); clear hK K
    try simp only [Act.put, s1, s2, s3, s4, s5, s6]
    refine r1 1 (fun K hK => ?_)
    go_simp; go_at_call 33; refine (st.out.cp1 WA.out OA.out.1).mono ?_; rintro e V3 ⟨x, rfl, h⟩; replace st := hide h; clear h; refine hK.out _ _ (KP.out _ st.out.1) (fun hHeld => ?_); clear hK K
    try simp only [Act.put, s1, s2, s3, s4, s5, s6]
    refine r1 3 (fun K hK => ?_)
    go_simp; go_at_call 33; refine (st.out.cp2 WB.out OB.out.1).mono ?_; rintro e V4 ⟨u, rfl, h⟩; replace st := hide h; clear h; refine hK.out _ _ (KP.out _ st.out.1) (fun hHeld => ?_); clear hK K
    try simp only [Act.put, s1, s2, s3, s4, s5, s6]
    refine r1 6 (fun K hK => ?_)
    obtain ⟨V5, hV, ⟨k0, k1, k2, k3, k4⟩, ⟨f0, f1, f2, f3, f4⟩, h⟩ := st.out.put1; go_simp; (try rw [hV]); have S1 := hide h; clear hV k0 k1 k2 k3 k4 f0 f1 f2 f3 f4 h; refine hK.out _ _ (KP.out _ S1.out.2.1.1) (fun hHeld => ?_); clear hK K
    try simp only [Act.put, s1, s2, s3, s4, s5, s6]
    refine r1 7 (fun K hK => ?_)
    obtain ⟨V6, hV, ⟨k0, k1, k2, k3, k4⟩, ⟨f0, f1, f2, f3, f4⟩, h⟩ := S1.out.2.1.put2 S1.out.1 S1.out.2.2; go_simp; (try rw [hV]); have FN := hide h; clear hV k0 k1 k2 k3 k4 f0 f1 f2 f3 f4 h; refine hK.out _ _ (KP.out _ FN.out.below) (fun hHeld => ?_); clear hK K
    refine wpAnyH_done (by kernel_rfl) ?_ _
    go_wp2_with fail; go_meet; exact FN.out
  ·go_simp; replace st := hide st.out.al2; generalize (V0.alloc kblk) = V1 at *; generalize V0.heap.size = g8 at *; refine hK.out _ _ (KP.out _ st.out.1) (fun hHeld => ?_); clear hK K
   try simp only [Act.put, s1, s2, s3, s4, s5, s6]
   refine r2 1 4 (fun K hK => ?_) (fun K hK => ?_)
   ·go_simp; go_at_call 33; refine (st.out.cp1 WA.out OA.out.1).mono ?_; rintro e V2 ⟨x, rfl, h⟩; replace st := hide h; clear h; refine hK.out _ _ (KP.out _ st.out.1) (fun hHeld => ?_); clear hK K
    try simp only [Act.put, s1, s2, s3, s4, s5, s6]
    refine r2 3 4 (fun K hK => ?_) (fun K hK => ?_)
    ·go_simp; go_at_call 33; refine (st.out.cp2 WB.out OB.out.1).mono ?_; rintro e V3 ⟨u, rfl, h⟩; replace st := hide h; clear h; refine hK.out _ _ (KP.out _ st.out.1) (fun hHeld => ?_); clear hK K
     try simp only [Act.put, s1, s2, s3, s4, s5, s6]
     refine r1 4 (fun K hK => ?_)
     go_simp; replace st := hide st.out.al1; generalize (V3.alloc kblk) = V4 at *; generalize V3.heap.size = g7 at *; refine hK.out _ _ (KP.out _ st.out.1) (fun hHeld => ?_); clear hK K
     try simp only [Act.put, s1, s2, s3, s4, s5, s6]
     refine r1 6 (fun K hK => ?_)
     obtain ⟨V5, hV, ⟨k0, k1, k2, k3, k4⟩, ⟨f0, f1, f2, f3, f4⟩, h⟩ := st.out.put1; go_simp; (try rw [hV]); have S1 := hide h; clear hV k0 k1 k2 k3 k4 f0 f1 f2 f3 f4 h; refine hK.out _ _ (KP.out _ S1.out.2.1.1) (fun hHeld => ?_); clear hK K
     try simp only [Act.put, s1, s2, s3, s4, s5, s6]
     refine r1 7 (fun K hK => ?_)
     obtain ⟨V6, hV, ⟨k0, k1, k2, k3, k4⟩, ⟨f0, f1, f2, f3, f4⟩, h⟩ := S1.out.2.1.put2 S1.out.1 S1.out.2.2; go_simp; (try rw [hV]); have FN := hide h; clear hV k0 k1 k2 k3 k4 f0 f1 f2 f3 f4 h; refine hK.out _ _ (KP.out _ FN.out.below) (fun hHeld => ?_); clear hK K
     refine wpAnyH_done (by kernel_rfl) ?_ _
     go_wp2_with fail; go_meet; exact FN.out
    ·go_simp; replace st := hide st.out.al1; generalize (V2.alloc kblk) = V3 at *; generalize V2.heap.size = g7 at *; refine hK.out _ _ (KP.out _ st.out.1) (fun hHeld => ?_); clear hK K
     try simp only [Act.put, s1, s2, s3, s4, s5, s6]
     refine r1 3 (fun K hK => ?_)
     go_simp; go_at_call 33; refine (st.out.cp2 WB.out OB.out.1).mono ?_; rintro e V4 ⟨u, rfl, h⟩; replace st := hide h; clear h; refine hK.out _ _ (KP.out _ st.out.1) (fun hHeld => ?_); clear hK K
     try simp only [Act.put, s1, s2, s3, s4, s5, s6]
     refine r1 6 (fun K hK => ?_)
     obtain ⟨V5, hV, ⟨k0, k1, k2, k3, k4⟩, ⟨f0, f1, f2, f3, f4⟩, h⟩ := st.out.put1; go_simp; (try rw [hV]); have S1 := hide h; clear hV k0 k1 k2 k3 k4 f0 f1 f2 f3 f4 h; refine hK.out _ _ (KP.out _ S1.out.2.1.1) (fun hHeld => ?_); clear hK K
     try simp only [Act.put, s1, s2, s3, s4, s5, s6]
     refine r1 7 (fun K hK => ?_)
     obtain ⟨V6, hV, ⟨k0, k1, k2, k3, k4⟩, ⟨f0, f1, f2, f3, f4⟩, h⟩ := S1.out.2.1.put2 S1.out.1 S1.out.2.2; go_simp; (try rw [hV]); have FN := hide h; clear hV k0 k1 k2 k3 k4 f0 f1 f2 f3 f4 h; refine hK.out _ _ (KP.out _ FN.out.below) (fun hHeld => ?_); clear hK K
     refine wpAnyH_done (by kernel_rfl) ?_ _
     go_wp2_with fail; go_meet; exact FN.out
   ·go_simp; replace st := hide st.out.al1; generalize (V1.alloc kblk) = V2 at *; generalize V1.heap.size = g7 at *; refine hK.out _ _ (KP.out _ st.out.1) (fun hHeld => ?_); clear hK K
    try simp only [Act.put, s1, s2, s3, s4, s5, s6]
    refine r1 1 (fun K hK => ?_)
    go_simp; go_at_call 33; refine (st.out.cp1 WA.out OA.out.1).mono ?_; rintro e V3 ⟨x, rfl, h⟩; replace st := hide h; clear h; refine hK.out _ _ (KP.out _ st.out.1) (fun hHeld => ?_); clear hK K
    try simp only [Act.put, s1, s2, s3, s4, s5, s6]
    refine r1 3 (fun K hK => ?_)
    go_simp; go_at_call 33; refine (st.out.cp2 WB.out OB.out.1).mono ?_; rintro e V4 ⟨u, rfl, h⟩; replace st := hide h; clear h; refine hK.out _ _ (KP.out _ st.out.1) (fun hHeld => ?_); clear hK K
    try simp only [Act.put, s1, s2, s3, s4, s5, s6]
    refine r1 6 (fun K hK => ?_)
    obtain ⟨V5, hV, ⟨k0, k1, k2, k3, k4⟩, ⟨f0, f1, f2, f3, f4⟩, h⟩ := st.out.put1; go_simp; (try rw [hV]); have S1 := hide h; clear hV k0 k1 k2 k3 k4 f0 f1 f2 f3 f4 h; refine hK.out _ _ (KP.out _ S1.out.2.1.1) (fun hHeld => ?_); clear hK K
    try simp only [Act.put, s1, s2, s3, s4, s5, s6]
    refine r1 7 (fun K hK => ?_)
    obtain ⟨V6, hV, ⟨k0, k1, k2, k3, k4⟩, ⟨f0, f1, f2, f3, f4⟩, h⟩ := S1.out.2.1.put2 S1.out.1 S1.out.2.2; go_simp; (try rw [hV]); have FN := hide h; clear hV k0 k1 k2 k3 k4 f0 f1 f2 f3 f4 h; refine hK.out _ _ (KP.out _ FN.out.below) (fun hHeld => ?_); clear hK K
    refine wpAnyH_done (by kernel_rfl) ?_ _
    go_wp2_with fail; go_meet; exact FN.out
 case rest =>
  obtain ⟨gx, gu, x, u, rfl, rfl, px, pu, ⟨sx, wx2⟩, ⟨su, wu2⟩, bx⟩ := hcut
  have PX := hide px
  have PU := hide pu
  have SX := hide sx
  have SU := hide su
  have WX := hide wx2
  have WU := hide wu2
  replace P := hide (P.out.step bx)
  replace P2 := hide (P2.out.step bx)
  replace HA := hide (HA.out.step bx)
  replace HB := hide (HB.out.step bx)
  replace HV := hide (HV.out.step bx)
  replace WA := hide (WA.out.step bx)
  replace WB := hide (WB.out.step bx)
  replace B := hide (Below.step B.out B.out.size bx)
  clear bx
  obtain ⟨t1, t2, t3⟩ := kw_same WA.out WX.out
  obtain ⟨t4, t5, t6⟩ := kw_same WB.out WU.out
  have TX := hide t1
  have RX := hide t2
  have TU := hide t4
  have RU := hide t5
  have DX := hide (show x.d.length ≤ 30 by have := OA.out.1; omega)
  have DU := hide (show u.d.length ≤ 30 by have := OB.out.1; omega)
  clear px pu sx su wx2 wu2 t1 t2 t3 t4 t5 t6
  obtain ⟨i, hi, hz0, hz1, hz2⟩ := info_parts info_bo
  go_wp2_with fail
  have bx := (Below.refl wc.heap.size wc).drew
  replace P := hide (P.out.step bx); replace P2 := hide (P2.out.step bx); replace HA := hide (HA.out.step bx); replace HB := hide (HB.out.step bx); replace HV := hide (HV.out.step bx); replace WA := hide (WA.out.step bx); replace WB := hide (WB.out.step bx); replace PX := hide (PX.out.step bx); replace PU := hide (PU.out.step bx); replace WX := hide (WX.out.step bx); replace WU := hide (WU.out.step bx); replace B := hide (Below.step B.out B.out.size bx); clear bx
  refine wp_region_held_drew (S := fun W => (W.cell? ⟨w.heap.size, 0, none⟩ = some (.int .i64 a.s) ∧ W.cell? ⟨w.heap.size, 1, none⟩ = some (sv a.v) ∧ W.cell? ⟨w.heap.size, 2, none⟩ = some (.bool a.x.s) ∧ W.cell? ⟨w.heap.size, 3, none⟩ = some (sv a.x.u) ∧ W.cell? ⟨w.heap.size, 4, none⟩ = some (sv a.x.t)) ∧ (W.cell? ⟨w.heap.size + 1, 0, none⟩ = some (.int .i64 b.s) ∧ W.cell? ⟨w.heap.size + 1, 1, none⟩ = some (sv b.v) ∧ W.cell? ⟨w.heap.size + 1, 2, none⟩ = some (.bool b.x.s) ∧ W.cell? ⟨w.heap.size + 1, 3, none⟩ = some (sv b.x.u) ∧ W.cell? ⟨w.heap.size + 1, 4, none⟩ = some (sv b.x.t)) ∧ (W.cell? ⟨gx, 0, none⟩ = some (.int .i64 x.s) ∧ W.cell? ⟨gx, 1, none⟩ = some (sv x.v) ∧ W.cell? ⟨gx, 2, none⟩ = some (.bool x.x.s) ∧ W.cell? ⟨gx, 3, none⟩ = some (sv x.x.u) ∧ W.cell? ⟨gx, 4, none⟩ = some (sv x.x.t)) ∧ (W.cell? ⟨gu, 0, none⟩ = some (.int .i64 u.s) ∧ W.cell? ⟨gu, 1, none⟩ = some (sv u.v) ∧ W.cell? ⟨gu, 2, none⟩ = some (.bool u.x.s) ∧ W.cell? ⟨gu, 3, none⟩ = some (sv u.x.u) ∧ W.cell? ⟨gu, 4, none⟩ = some (sv u.x.t))) (by kernel_rfl) ?_ (fun hHeld => ?_)
  ·try dsimp only
   exact ⟨P.out.all, P2.out.all, PX.out.all, PU.out.all⟩
  generalize wc.drew = V0 at *
  refine tk 0 (v := ?_) hHeld ?_ ?_; rotate_left; (focus (intro w hSw; (try dsimp only at hSw); go_simp; (try with_reducible rfl)))
  refine tk 1 (v := ?_) hHeld ?_ ?_; rotate_left; (focus (intro w hSw; (try dsimp only at hSw); go_simp; (try with_reducible rfl)))
  refine tk 3 (v := ?_) hHeld ?_ ?_; rotate_left; (focus (intro w hSw; (try dsimp only at hSw); go_simp; (try with_reducible rfl)))
  refine tk 4 (v := ?_) hHeld ?_ ?_; rotate_left; (focus (intro w hSw; (try dsimp only at hSw); go_simp; (try with_reducible rfl)))
  try simp only [Act.put, s1, s2, s3, s4, s5, s6]
  refine r1 2 (fun K hK => ?_)
  go_simp; go_at_call 42; refine Calls.mono (kdom_c WX.out.kv WU.out.kv (by have := DX.out; omega) (by have := DU.out; omega) (by omega) (by omega) (by omega) (by omega)) ?_; rintro e V1 ⟨⟨o1, rfl, h1⟩, bx⟩; have H1 := hide h1; clear h1; replace P := hide (P.out.step bx); replace P2 := hide (P2.out.step bx); replace HA := hide (HA.out.step bx); replace HB := hide (HB.out.step bx); replace HV := hide (HV.out.step bx); replace WA := hide (WA.out.step bx); replace WB := hide (WB.out.step bx); replace PX := hide (PX.out.step bx); replace PU := hide (PU.out.step bx); replace WX := hide (WX.out.step bx); replace WU := hide (WU.out.step bx); replace B := hide (Below.step B.out B.out.size bx); clear bx; (try dsimp only); refine hK.out _ _ ?_ (fun hHeld => ?_); (focus ((try dsimp only); exact ⟨P.out.all, P2.out.all, PX.out.all, PU.out.all⟩)); clear hK K
  try simp only [Act.put, s1, s2, s3, s4, s5, s6]
  refine r1 5 (fun K hK => ?_)
  go_simp; go_at_call 43; refine Calls.mono (rdom_f HA.out HB.out (by have := OA.out.1; omega) (by have := OB.out.1; omega) (by omega) (by omega) (by omega) (by omega)) ?_; rintro e V2 ⟨⟨o2, rfl, h2⟩, bx⟩; obtain rfl : o1 = o2 := bool_alike (H1.out.trans (by rw [SX.out, SU.out, TX.out, TU.out, RX.out, RU.out])) h2; clear h2; replace P := hide (P.out.step bx); replace P2 := hide (P2.out.step bx); replace HA := hide (HA.out.step bx); replace HB := hide (HB.out.step bx); replace HV := hide (HV.out.step bx); replace WA := hide (WA.out.step bx); replace WB := hide (WB.out.step bx); replace PX := hide (PX.out.step bx); replace PU := hide (PU.out.step bx); replace WX := hide (WX.out.step bx); replace WU := hide (WU.out.step bx); replace B := hide (Below.step B.out B.out.size bx); clear bx; (try dsimp only); refine hK.out _ _ ?_ (fun hHeld => ?_); (focus ((try dsimp only); exact ⟨P.out.all, P2.out.all, PX.out.all, PU.out.all⟩)); clear hK K
  refine tk 6 (v := .bool true) hHeld ?_ ?_
  (focus (intro w hSw; cases o1 <;> rfl))
  try simp only [Act.put, s1, s2, s3, s4, s5, s6]
  refine tp 7 hHeld ?_
  try simp only [Act.put, s1, s2, s3, s4, s5, s6]
  refine tk 8 (v := ?_) hHeld ?_ ?_; rotate_left; (focus (intro w hSw; (try dsimp only at hSw); go_simp; (try with_reducible rfl)))
  refine tk 9 (v := ?_) hHeld ?_ ?_; rotate_left; (focus (intro w hSw; (try dsimp only at hSw); go_simp; (try with_reducible rfl)))
  refine tp 11 hHeld ?_
  refine tk 14 (v := ?_) hHeld ?_ ?_; rotate_left; (focus (intro w hSw; (try dsimp only at hSw); go_simp; (try with_reducible rfl)))
  refine tk 15 (v := ?_) hHeld ?_ ?_; rotate_left; (focus (intro w hSw; (try dsimp only at hSw); go_simp; (try with_reducible rfl)))
  refine tp 16 hHeld ?_
  try simp only [Act.put, s1, s2, s3, s4, s5, s6]
  refine r1 10 (fun K hK => ?_)
  go_simp; have FO := hide (Ow.lit (enc := eb1) (k := 1) (B := V2.heap.size) eb1_len V2 4 [] #[] rfl (Nat.le_refl _) (by simp [maxLen])); have B6 := hide (alloc_below V2 (.cells #[] 4)); generalize (V2.alloc (.cells #[] 4)) = V3 at *; (try dsimp only); refine hK.out _ _ ?_ (fun hHeld => ?_); (focus ((try dsimp only); exact ⟨(P.out.step B6.out).all, (P2.out.step B6.out).all, (PX.out.step B6.out).all, (PU.out.step B6.out).all⟩)); clear hK K
  try simp only [Act.put, s1, s2, s3, s4, s5, s6]
  refine r1 12 (fun K hK => ?_)
  refine step_joinW rfl (.tmp 30) (.tmp 31) 66 rfl Tryz.underlying66 hi hz0 hz1 hz2 rfl (by omega) eb1_len eb1_one V3 V2.heap.size _ _ [] fl (HV.out.step B6.out) FO.out rfl rfl (by have := NV.out; simp; omega) (by decide) B6.out.size ?_; intro v9 V4 ho hg; have B9 := hide (below_own B6.out FO.out hg B6.out.size); replace B6 := B9; clear B9; replace FO := hide (show Ow 4 eb1 1 V4 V2.heap.size v9 fl from ho); obtain ⟨A9, n9, c9, rfl⟩ := rv_sl (FO.out.rl eb1_len); clear ho hg; (try dsimp only); refine hK.out _ _ ?_ (fun hHeld => ?_); (focus ((try dsimp only); exact ⟨(P.out.step B6.out).all, (P2.out.step B6.out).all, (PX.out.step B6.out).all, (PU.out.step B6.out).all⟩)); clear hK K
  try simp only [Act.put, s1, s2, s3, s4, s5, s6]
  refine r1 13 (fun K hK => ?_)
  go_simp; go_at_call 44; refine Calls.mono (ksplit_c (fl := fl) (WX.out.step B6.out).kv (WU.out.step B6.out).kv (FO.out.rl eb1_len) (by have := DX.out; omega) (by have := DU.out; omega) (by omega) (by omega) (by omega) (by omega)) ?_; rintro e V5 ⟨⟨o3, rfl, h3⟩, bx⟩; have H3 := hide h3; clear h3 FO; replace B6 := hide (Below.step B6.out B6.out.size bx); clear bx; (try dsimp only); refine hK.out _ _ ?_ (fun hHeld => ?_); (focus ((try dsimp only); exact ⟨(P.out.step B6.out).all, (P2.out.step B6.out).all, (PX.out.step B6.out).all, (PU.out.step B6.out).all⟩)); clear hK K
  try simp only [Act.put, s1, s2, s3, s4, s5, s6]
  refine r1 17 (fun K hK => ?_)
  go_simp; go_at_call 45; refine Calls.mono (rsplit_f (fl := fl) (HA.out.step B6.out) (HB.out.step B6.out) (HV.out.step B6.out) OA.out.1 OB.out.1 SB.out) ?_; rintro e V6 ⟨⟨o4, rfl, h4⟩, bx⟩; obtain rfl : o3 = o4 := bool_alike (H3.out.trans (by rw [SX.out, SU.out, TX.out, TU.out, RX.out, RU.out])) h4; clear h4; replace B6 := hide (Below.step B6.out B6.out.size bx); clear bx; (try dsimp only); refine hK.out _ _ ?_ (fun hHeld => ?_); (focus ((try dsimp only); exact ⟨(P.out.step B6.out).all, (P2.out.step B6.out).all, (PX.out.step B6.out).all, (PU.out.step B6.out).all⟩)); clear hK K
  refine tk 18 (v := .bool true) hHeld ?_ ?_
  (focus (intro w hSw; cases o3 <;> rfl))
  try simp only [Act.put, s1, s2, s3, s4, s5, s6]
  refine tp 19 hHeld ?_
  try simp only [Act.put, s1, s2, s3, s4, s5, s6]
  refine tp 20 hHeld ?_
  try simp only [Act.put, s1, s2, s3, s4, s5, s6]
  refine wpAnyH_done (by kernel_rfl) ?_ _
  have bx := B6.out
  replace P := hide (P.out.step bx)
  replace P2 := hide (P2.out.step bx)
  replace WA := hide (WA.out.step bx)
  replace WB := hide (WB.out.step bx)
  replace PX := hide (PX.out.step bx)
  replace PU := hide (PU.out.step bx)
  replace WX := hide (WX.out.step bx)
  replace WU := hide (WU.out.step bx)
  replace B := hide (Below.step B.out B.out.size bx)
  clear bx
  clear B6 hHeld
  obtain ⟨p0, p1, p2, p3, p4⟩ := P.out.all
  obtain ⟨q0, q1, q2, q3, q4⟩ := P2.out.all
  obtain ⟨k0, k1, k2, k3, k4⟩ := PX.out.all
  obtain ⟨l0, l1, l2, l3, l4⟩ := PU.out.all
  go_wp2_with fail
  refine (samecons_w WX.out WA.out SX.out).mono ?_
  rintro e w8 ⟨rfl, bx⟩
  replace P2 := hide (P2.out.step bx)
  replace WB := hide (WB.out.step bx)
  replace PU := hide (PU.out.step bx)
  replace WU := hide (WU.out.step bx)
  replace B := hide (Below.step B.out B.out.size bx)
  clear bx
  clear p0 p1 p2 p3 p4 q0 q1 q2 q3 q4 k0 k1 k2 k3 k4 l0 l1 l2 l3 l4
  obtain ⟨q0, q1, q2, q3, q4⟩ := P2.out.all
  obtain ⟨l0, l1, l2, l3, l4⟩ := PU.out.all
  go_wp2_with fail
  refine (samecons_w WU.out WB.out SU.out).mono ?_
  rintro e w9 ⟨rfl, bx⟩
  replace B := hide (Below.step B.out B.out.size bx)
  clear bx q0 q1 q2 q3 q4 l0 l1 l2 l3 l4
  go_wp2_with fail
  go_ret
  exact ⟨rfl, B.out⟩
end Go.Proofs.YtfnngcaalpknlaaGreat
