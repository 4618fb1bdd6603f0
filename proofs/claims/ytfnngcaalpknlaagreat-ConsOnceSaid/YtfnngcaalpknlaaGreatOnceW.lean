
/-
 The walk of ConsOnce: true.
-/
import Derived.Test.YtfnngcaalpknlaaGreatKxConsOnce
import Derived.Test.YtfnngcaalpknlaaGreatBundleN
import Derived.Test.YtfnngcaalpknlaaGreatKdrw
import Derived.Deep.DeepCutAuto


namespace Go.Proofs.YtfnngcaalpknlaaGreat
open Go.ChangeShapes Go.WideShapes Go.ChangeAt Go.RowKit Go.Joins Go.Deep Go.Proofs.YtfnngcaalpknlaaGreat.Num
set_option linter.unusedVariables false
set_option linter.unusedSimpArgs false
set_option maxRecDepth 100000
theorem BRet.yes {P : Prop} {e : Ending} (h : BRet P e) (p : P) : e = .returned (.bool true) := by
 obtain ⟨b, rfl, hb⟩ := h
 rw [hb.2 p]
theorem CbRet.good {w w' : World} {l : List Kx} {o : List Rx} {t : Int} {e : Ending} (h : CbRet w l o t e w') (h1 : ¬ CmArg l o t) (h2 : ¬ CmRule l o t) :
  ∃ k' : Kx, e = .returned (.tuple #[kx k', .int .i64 0]) ∧ Kg w' w.heap.size k' 141200 ∧ k'.s = t ∧ CmT l o l.length (tms k'.d) k'.x.r ∧ k'.d.length ≤ 360 ∧ Below w.heap.size w w' := by
 obtain ⟨⟨rfl, h⟩ | ⟨rfl, h, h2'⟩ | ⟨k', rfl, h, h2', kg, es, ct, kl⟩, b⟩ := h
 ·exact absurd h h1
 ·exact absurd h2' h2
 ·exact ⟨k', rfl, kg, es, ct, kl, b⟩
def Tim (a : Kx) (m : Rat) (r : Kx) : Prop := r.s = a.s ∧ (∀ c, 0 ≤ c → gsum (tms r.d) c = m * gsum (tms a.d) c) ∧ r.x.r = m * a.x.r
theorem may_one {s : Int} : May s 1 s := by
 unfold May
 by_cases h : s = 3
 ·exact .inr (.inl h)
 ·exact .inr (.inr ⟨h, by simp; decide⟩)
theorem cm_one {a : Kx} {z : Rx} (hs : IsS a.s) (hz : z.r = 1) : ¬ CmArg [a] [z] a.s ∧ ¬ CmRule [a] [z] a.s ∧ ∀ r : Kx, r.s = a.s → CmT [a] [z] [a].length (tms r.d) r.x.r → Tim a 1 r := by
 refine ⟨?_, ?_, ?_⟩
 ·rintro (h | h | ⟨k, hk, h⟩)
  ·exact h hs
  ·exact h rfl
  ·simp at hk
   subst hk
   exact h hs
 ·rintro ⟨i, k, hk, h⟩
  match i, hk with
  | 0, hk =>
   simp at hk
   subst hk
   refine h ?_
   rw [show xf [z] ((0 : Nat) : Int) = 1 by simp [xf, hz]]
   exact may_one
  | i + 1, hk => simp at hk
 ·intro r h1 h
  obtain ⟨h2, h3⟩ := h
  refine ⟨h1, fun c hc => ?_, ?_⟩
  ·rw [h2 c hc]
   simp [sm, xf, kAt, hz]
   grind
  ·rw [h3]
   simp [sm, xf, kAt, hz]
   grind
theorem cm_two {a : Kx} {z y : Rx} (hs : IsS a.s) (hz : z.r = 1) (hy : y.r = 1) : ¬ CmArg [a, a] [z, y] a.s ∧ ¬ CmRule [a, a] [z, y] a.s ∧ ∀ r : Kx, r.s = a.s → CmT [a, a] [z, y] [a, a].length (tms r.d) r.x.r → Tim a 2 r := by
 refine ⟨?_, ?_, ?_⟩
 ·rintro (h | h | ⟨k, hk, h⟩)
  ·exact h hs
  ·exact h rfl
  ·simp at hk
   subst hk
   exact h hs
 ·rintro ⟨i, k, hk, h⟩
  match i, hk with
  | 0, hk =>
   simp at hk
   subst hk
   refine h ?_
   rw [show xf [z, y] ((0 : Nat) : Int) = 1 by simp [xf, hz]]
   exact may_one
  | 1, hk =>
   simp at hk
   subst hk
   refine h ?_
   rw [show xf [z, y] ((1 : Nat) : Int) = 1 by simp [xf, hy]]
   exact may_one
  | i + 2, hk => simp at hk
 ·intro r h1 h
  obtain ⟨h2, h3⟩ := h
  refine ⟨h1, fun c hc => ?_, ?_⟩
  ·rw [h2 c hc]
   simp [sm, xf, kAt, hz, hy]
   grind
  ·rw [h3]
   simp [sm, xf, kAt, hz, hy]
   grind
def OnTwo (W0 : World) (a : Kx) (m : Rat) (s5 s6 : Value) (wx : World) : Prop :=
 ∃ (g : Nat) (r : Kx), s5 = .pointer (some ⟨g, 0, none⟩) ∧ s6 = .int .i64 0 ∧ W0.heap.size ≤ g ∧ Kq wx g r ∧ Kc wx r 141200 ∧ r.d.length ≤ 360 ∧ Tim a m r ∧ Below W0.heap.size W0 wx
theorem bool_same {a b : Bool} {P : Prop} (h : a = true ↔ P) (k : b = true ↔ P) : a = b := by
 cases a <;> cases b <;> simp_all
theorem tim_dt {a r : Kx} {n : Nat} {x : Int → Rat} (h : Tim a 2 r) (hx : ∀ c, c < 0 ∨ (n : Int) ≤ c → x c = 0) : dt (tms r.d) x = dt (tms a.d) x + dt (tms a.d) x := by
 have e : Alk (tms r.d) (tms a.d ++ tms a.d) := fun c hc => by
  rw [h.2.1 c hc, gsum_append]
  grind
 rw [e.dt hx, dt_append]
theorem tim_fls {a r : Kx} (h : Tim a 2 r) : Fls r.s (tms r.d) r.x.r ↔ Fls a.s (tms a.d) a.x.r := by
 unfold Fls
 rw [h.1, h.2.2, show (2 : Rat) * a.x.r = a.x.r + a.x.r by grind]
 constructor
 ·rintro ⟨h1, h2, h3⟩
  refine ⟨h1, fun c hc => ?_, fun h4 => h3 ?_⟩
  ·have := h2 c hc
   rw [h.2.1 c hc] at this
   grind
  ·have := (twice_kpt h1 0 a.x.r).2 h4
   rwa [show (0 : Rat) + 0 = 0 by grind] at this
 ·rintro ⟨h1, h2, h3⟩
  refine ⟨h1, fun c hc => ?_, fun h4 => h3 ?_⟩
  ·rw [h.2.1 c hc, h2 c hc]
   grind
  ·refine (twice_kpt h1 0 a.x.r).1 ?_
   rwa [show (0 : Rat) + 0 = 0 by grind]
theorem OnTwo.below {W0 : World} {a : Kx} {m : Rat} {s5 s6 : Value} {wx : World} (h : OnTwo W0 a m s5 s6 wx) : Below W0.heap.size W0 wx := by
 obtain ⟨g, r, -, -, -, -, -, -, -, h⟩ := h
 exact h
def OSt (W0 : World) (la : List Kx) (k : Option Nat) (zs : List Rx) (g : Option Nat) (b : Option Nat) (c : Option Kx) (V : World) : Prop :=
 Below W0.heap.size W0 V ∧ (∀ j, k = some j → Lr ek 5 V (.slice (some ⟨j, 0, none⟩) la.length la.length) la) ∧ (∀ z ∈ zs, Ra V (rx z) z.r 6 ∧ z.r = 1) ∧
  (∀ j, g = some j → Lr er 3 V (.slice (some ⟨j, 0, none⟩) zs.length zs.length) zs) ∧ (∀ j, b = some j → Kz V j ∧ W0.heap.size ≤ j) ∧ (∀ r, c = some r → Kg V 0 r 141200)
theorem OSt.start (W : World) (la : List Kx) : OSt W la none [] none none none W.drew := by
 refine ⟨(Below.refl _ _).drew, ?_, ?_, ?_, ?_, ?_⟩ <;> intro _ h <;> simp at h
section
variable {W0 V V' : World} {la : List Kx} {zs : List Rx} {k g b : Option Nat} {c : Option Kx}
theorem OSt.step (h : OSt W0 la k zs g b c V) (bx : Below V.heap.size V V') : OSt W0 la k zs g b c V' :=
 ⟨Below.step h.1 h.1.size bx, fun j e => (h.2.1 j e).step bx, fun z hz => ⟨(h.2.2.1 z hz).1.step bx, (h.2.2.1 z hz).2⟩, fun j e => (h.2.2.2.1 j e).step bx, fun j e => ⟨(h.2.2.2.2.1 j e).1.step bx, (h.2.2.2.2.1 j e).2⟩, fun r e => (h.2.2.2.2.2 r e).step bx⟩
theorem OSt.lb (h : OSt W0 la none zs g b c V) (cs : Array Value) (hc : cs.toList = flat ek la) (hm : la.length ≤ maxLen) : OSt W0 la (some V.heap.size) zs g b c (V.alloc (.cells cs 54)) := by
 have k := h.step (alloc_below V (.cells cs 54))
 exact ⟨k.1, fun j e => by cases e; exact (Ow.lit (enc := ek) (k := 5) (B := 0) ek_len V _ la cs hc (Nat.zero_le _) hm).rl ek_len, k.2.2⟩
theorem OSt.wh (h : OSt W0 la k zs none b c V) (bx : Below V.heap.size V V') {z : Rx} (hr : Ra V' (rx z) z.r 6) (hz : z.r = 1) {zs' : List Rx} (e : zs ++ [z] = zs') : OSt W0 la k zs' none b c V' := by
 subst e
 have k := h.step bx
 refine ⟨k.1, k.2.1, fun y hy => ?_, fun _ e => (by cases e), k.2.2.2.2⟩
 rcases List.mem_append.1 hy with hy | hy
 ·exact k.2.2.1 y hy
 ·simp at hy
  subst hy
  exact ⟨hr, hz⟩
theorem OSt.fb (h : OSt W0 la k zs none b c V) (cs : Array Value) (hc : cs.toList = flat er zs) (hm : zs.length ≤ maxLen) : OSt W0 la k zs (some V.heap.size) b c (V.alloc (.cells cs 42)) := by
 have k := h.step (alloc_below V (.cells cs 42))
 exact ⟨k.1, k.2.1, k.2.2.1, fun j e => by cases e; exact (Ow.lit (enc := er) (k := 3) (B := 0) er_len V _ zs cs hc (Nat.zero_le _) hm).rl er_len, k.2.2.2.2⟩
theorem OSt.al (h : OSt W0 la k zs g none c V) : OSt W0 la k zs g (some V.heap.size) c (V.alloc kblk) := by
 have k := h.step (alloc_below V kblk)
 exact ⟨k.1, k.2.1, k.2.2.1, k.2.2.2.1, fun j e => by cases e; exact ⟨Kz.new V, h.1.size⟩, k.2.2.2.2.2⟩
theorem OSt.put {j : Nat} {r a : Kx} {m : Rat} (h : OSt W0 la k zs g (some j) (some r) V) (ht : Tim a m r) (hl : r.d.length ≤ 360) :
  (V.cell? ⟨j, 0, none⟩ = some (.int .i64 0) ∧ V.cell? ⟨j, 1, none⟩ = some (.slice none 0 0) ∧ V.cell? ⟨j, 2, none⟩ = some (.bool false) ∧ V.cell? ⟨j, 3, none⟩ = some (.slice none 0 0) ∧ V.cell? ⟨j, 4, none⟩ = some (.slice none 0 0)) ∧
   (V.frozen? ⟨j, 0, none⟩ = false ∧ V.frozen? ⟨j, 1, none⟩ = false ∧ V.frozen? ⟨j, 2, none⟩ = false ∧ V.frozen? ⟨j, 3, none⟩ = false ∧ V.frozen? ⟨j, 4, none⟩ = false) ∧
   OnTwo W0 a m (.pointer (some ⟨j, 0, none⟩)) (.int .i64 0) (((((V.setCell ⟨j, 0, none⟩ (.int .i64 r.s)).setCell ⟨j, 1, none⟩ (sv r.v)).setCell ⟨j, 2, none⟩ (.bool r.x.s)).setCell ⟨j, 3, none⟩ (sv r.x.u)).setCell ⟨j, 4, none⟩ (sv r.x.t)) := by
 obtain ⟨Z, lg⟩ := h.2.2.2.2.1 j rfl
 have kg := h.2.2.2.2.2 r rfl
 exact ⟨Z.all, ⟨Z.fz 0, Z.fz 1, Z.fz 2, Z.fz 3, Z.fz 4⟩, j, r, rfl, rfl, lg, put5_heap Z rfl _ _ _ _ _, (kg.grownK (only_put5 V j (.int .i64 r.s) (sv r.v) (.bool r.x.s) (sv r.x.u) (sv r.x.t)) Z.kb).kc, hl, ht, below_put5 h.1 lg _ _ _ _ _⟩
theorem OSt.comb1 {a : Kx} {z : Rx} {i j : Nat} (h : OSt W0 [a] (some i) [z] (some j) b none V) (ha : Kv W0 a 6) (hs : IsS a.s) (hn : a.d.length ≤ 30) :
  Calls Tryz.prog 26 #[.slice (some ⟨i, 0, none⟩) 1 1, .slice (some ⟨j, 0, none⟩) 1 1, .int .i64 a.s] V fun e w' => ∃ r : Kx, e = .returned (.tuple #[kx r, .int .i64 0]) ∧ OSt W0 [a] (some i) [z] (some j) b (some r) w' ∧ Tim a 1 r ∧ r.d.length ≤ 360 := by
 obtain ⟨h1, h2, h3⟩ := cm_one hs (h.2.2.1 z (by simp)).2
 refine (kcombine_g (l := [a]) (o := [z]) (t := a.s) ⟨h.2.1 i rfl, fun k hk => by simp at hk; subst hk; exact ha.step h.1⟩ ⟨h.2.2.2.1 j rfl, fun x hx => (h.2.2.1 x hx).1⟩ (fun k hk => by simp at hk; subst hk; exact hn) (by simp)).mono ?_
 intro e w' hret
 obtain ⟨r, rfl, kg, es, ct, kl, bx⟩ := hret.good h1 h2
 have k := h.step bx
 exact ⟨r, rfl, ⟨k.1, k.2.1, k.2.2.1, k.2.2.2.1, k.2.2.2.2.1, fun r' e => by cases e; exact kg.mono (Nat.zero_le _)⟩, h3 r es ct, kl⟩
theorem OSt.comb2 {a : Kx} {z y : Rx} {i j : Nat} (h : OSt W0 [a, a] (some i) [z, y] (some j) b none V) (ha : Kv W0 a 6) (hs : IsS a.s) (hn : a.d.length ≤ 30) :
  Calls Tryz.prog 26 #[.slice (some ⟨i, 0, none⟩) 2 2, .slice (some ⟨j, 0, none⟩) 2 2, .int .i64 a.s] V fun e w' => ∃ r : Kx, e = .returned (.tuple #[kx r, .int .i64 0]) ∧ OSt W0 [a, a] (some i) [z, y] (some j) b (some r) w' ∧ Tim a 2 r ∧ r.d.length ≤ 360 := by
 obtain ⟨h1, h2, h3⟩ := cm_two hs (h.2.2.1 z (by simp)).2 (h.2.2.1 y (by simp)).2
 refine (kcombine_g (l := [a, a]) (o := [z, y]) (t := a.s) ⟨h.2.1 i rfl, fun k hk => by simp at hk; subst hk; exact ha.step h.1⟩ ⟨h.2.2.2.1 j rfl, fun x hx => (h.2.2.1 x hx).1⟩ (fun k hk => by simp at hk; subst hk; exact hn) (by simp)).mono ?_
 intro e w' hret
 obtain ⟨r, rfl, kg, es, ct, kl, bx⟩ := hret.good h1 h2
 have k := h.step bx
 exact ⟨r, rfl, ⟨k.1, k.2.1, k.2.2.1, k.2.2.2.1, k.2.2.2.2.1, fun r' e => by cases e; exact kg.mono (Nat.zero_le _)⟩, h3 r es ct, kl⟩
end
set_option maxHeartbeats 16000000 in
theorem once_go (w : World) (a : Kx) (u : Value) (f : List Rx) (ha : Kv w a 17592186043904) (hu : Fv w u f 17592186043904) :
  Calls Tryz.prog 7 #[kx a, u] w fun e w' => e = .returned (.bool true) ∧ Below w.heap.size w w' := by
 obtain ⟨A2, n2, c2, rfl⟩ := rv_sl hu.1
 have b2 := alloc_below w (kbox a)
 have PA := hide (Kq.new w a)
 have HA := hide (ha.step b2)
 have HU := hide (hu.step b2)
 have B := hide b2
 clear ha hu b2
 go_enter Tryz.func7, Tryz.ntmps7
 go_wp2_with fail
 generalize (w.alloc (kbox a)) = w0 at *
 refine (kspeaks_true _).mono ?_
 rintro e wx ⟨rfl, bx⟩
 replace PA := hide (PA.out.step bx)
 replace HA := hide (HA.out.step bx)
 replace HU := hide (HU.out.step bx)
 replace B := hide (Below.step B.out B.out.size bx)
 clear bx
 obtain ⟨p0, p1, p2, p3, p4⟩ := PA.out.all
 have bx := alloc_below wx (.cells #[.int .i64 a.s, sv a.v, .bool a.x.s, sv a.x.u, sv a.x.t] 54)
 have KL := hide (show Kl (wx.alloc (.cells #[.int .i64 a.s, sv a.v, .bool a.x.s, sv a.x.u, sv a.x.t] 54)) (.slice (some ⟨wx.heap.size, 0, none⟩) 1 1) [a] 17592186043904 from
  ⟨(Ow.lit (B := wx.heap.size) ek_len wx 54 [a] #[.int .i64 a.s, sv a.v, .bool a.x.s, sv a.x.u, sv a.x.t] rfl (Nat.le_refl _) (by simp [maxLen])).rl ek_len, fun k hk => by
   simp at hk
   subst hk
   exact HA.out.step bx⟩)
 replace PA := hide (PA.out.step bx)
 replace HA := hide (HA.out.step bx)
 replace HU := hide (HU.out.step bx)
 replace B := hide (Below.step B.out B.out.size bx)
 clear bx
 go_wp2_with fail
 clear p0 p1 p2 p3 p4
 generalize (wx.alloc (.cells #[.int .i64 a.s, sv a.v, .bool a.x.s, sv a.x.u, sv a.x.t] 54)) = w2 at *
 generalize wx.heap.size = gl at *
 refine (kgreat_c KL.out (by omega)).mono ?_
 rintro e w3 ⟨bx, o, rfl, ho⟩
 have HO := hide ho
 clear ho KL
 replace PA := hide (PA.out.step bx)
 replace HA := hide (HA.out.step bx)
 replace HU := hide (HU.out.step bx)
 replace B := hide (Below.step B.out B.out.size bx)
 clear bx
 cases o
 case true =>
  go_wp2_with fail
  go_ret
  exact ⟨rfl, B.out⟩
 have OA := hide ((HO.out rfl).2 a (by simp))
 replace HA := hide (HA.out.tight OA.out)
 clear HO
 go_wp2_with fail
 refine (greatall_c HU.out (by omega)).mono ?_
 rintro e w4 ⟨bx, o, rfl, ho⟩
 have HO := hide ho
 clear ho
 replace PA := hide (PA.out.step bx)
 replace HA := hide (HA.out.step bx)
 replace HU := hide (HU.out.step bx)
 replace B := hide (Below.step B.out B.out.size bx)
 clear bx
 cases o
 case true =>
  go_wp2_with fail
  go_ret
  exact ⟨rfl, B.out⟩
 have OU := hide (HO.out rfl)
 replace HU := hide (HU.out.tight OU.out.2)
 clear HO
 obtain ⟨p0, p1, p2, p3, p4⟩ := PA.out.all
 go_wp2_with fail
 refine (sense_c a.s _).mono ?_
 rintro e wy ⟨⟨o, rfl, ho⟩, hw⟩
 subst hw
 cases o
 case false =>
  go_wp2_with fail
  go_ret
  exact ⟨rfl, B.out⟩
 have IS := hide (ho.1 rfl)
 clear ho p0 p1 p2 p3 p4
 go_wp2_with fail
 go_cut [5, 6] (fun s5 s6 wx => OnTwo wy a 1 s5 s6 wx)
 case first =>
  have st := hide (OSt.start wy [a])
  refine wp_region_held_drew (S := fun W => W.cell? ⟨w.heap.size, 0, none⟩ = some (.int .i64 a.s) ∧ W.cell? ⟨w.heap.size, 1, none⟩ = some (sv a.v) ∧ W.cell? ⟨w.heap.size, 2, none⟩ = some (.bool a.x.s) ∧ W.cell? ⟨w.heap.size, 3, none⟩ = some (sv a.x.u) ∧ W.cell? ⟨w.heap.size, 4, none⟩ = some (sv a.x.t)) (by kernel_rfl) ?_ (fun hHeld => ?_)
  ·try dsimp only
   exact (PA.out.step (Below.refl wy.heap.size wy).drew).all
  generalize wy.drew = V0 at *
  refine tk 0 (v := ?_) hHeld ?_ ?_; rotate_left; (focus (intro w hSw; (try dsimp only at hSw); go_simp; (try with_reducible rfl)))
  refine tk 4 (v := ?_) hHeld ?_ ?_; rotate_left; (focus (intro w hSw; (try dsimp only at hSw); go_simp; (try with_reducible rfl)))
  try simp only [Act.put, s1, s2, s3, s4, s5, s6]
  refine tk 5 (v := ?_) hHeld ?_ ?_; rotate_left; (focus (intro w hSw; (try dsimp only at hSw); go_simp; (try with_reducible rfl)))
  try simp only [Act.put, s1, s2, s3, s4, s5, s6]
  refine r3 1 2 10 (fun K hK => ?_) (fun K hK => ?_) (fun K hK => ?_)
  ·go_simp; replace st := hide (st.out.lb #[.int .i64 a.s, sv a.v, .bool a.x.s, sv a.x.u, sv a.x.t] rfl (by simp [maxLen])); generalize (V0.alloc (.cells #[.int .i64 a.s, sv a.v, .bool a.x.s, sv a.x.u, sv a.x.t] 54)) = V1 at *; generalize V0.heap.size = gk at *; (try dsimp only); refine hK.out _ _ ?_ (fun hHeld => ?_); (focus ((try dsimp only); exact (PA.out.step st.out.1).all)); clear hK K
   try simp only [Act.put, s1, s2, s3, s4, s5, s6]
   refine r2 2 10 (fun K hK => ?_) (fun K hK => ?_)
   ·go_simp; go_at_call 47; refine Calls.mono (whole11_g _ 1 (by omega) (by omega)) ?_; rintro e V2 ⟨z0, rfl, hz, rz, bx⟩; replace st := hide (st.out.wh (zs' := [z0]) bx rz.1.ra hz rfl); clear hz rz bx; (try dsimp only); refine hK.out _ _ ?_ (fun hHeld => ?_); (focus ((try dsimp only); exact (PA.out.step st.out.1).all)); clear hK K
    try simp only [Act.put, s1, s2, s3, s4, s5, s6]
    refine r2 3 10 (fun K hK => ?_) (fun K hK => ?_)
    ·go_simp; replace st := hide (st.out.fb #[.bool z0.s, sv z0.u, sv z0.t] rfl (by simp [maxLen])); generalize (V2.alloc (.cells #[.bool z0.s, sv z0.u, sv z0.t] 42)) = V3 at *; generalize V2.heap.size = gr at *; (try dsimp only); refine hK.out _ _ ?_ (fun hHeld => ?_); (focus ((try dsimp only); exact (PA.out.step st.out.1).all)); clear hK K
     try simp only [Act.put, s1, s2, s3, s4, s5, s6]
     refine r2 6 10 (fun K hK => ?_) (fun K hK => ?_)
     ·go_simp; go_at_call 26; refine Calls.mono (st.out.comb1 HA.out IS.out OA.out.1) ?_; rintro e V4 ⟨r, rfl, ho, ht, hl⟩; replace st := hide ho; have TI := hide ht; have KL := hide hl; clear ho ht hl; (try dsimp only); refine hK.out _ _ ?_ (fun hHeld => ?_); (focus ((try dsimp only); exact (PA.out.step st.out.1).all)); clear hK K
      refine tp 7 hHeld ?_
      try simp only [Act.put, s1, s2, s3, s4, s5, s6]
      refine tp 8 hHeld ?_
      refine tp 9 hHeld ?_
      try simp only [Act.put, s1, s2, s3, s4, s5, s6]
      refine r1 10 (fun K hK => ?_)
      go_simp; replace st := hide st.out.al; generalize (V4.alloc kblk) = V5 at *; generalize V4.heap.size = g9 at *; (try dsimp only); refine hK.out _ _ ?_ (fun hHeld => ?_); (focus ((try dsimp only); exact (PA.out.step st.out.1).all)); clear hK K
      try simp only [Act.put, s1, s2, s3, s4, s5, s6]
      refine r1 11 (fun K hK => ?_)
      obtain ⟨⟨k0, k1, k2, k3, k4⟩, ⟨y0, y1, y2, y3, y4⟩, fin⟩ := st.out.put TI.out KL.out; have FN := hide fin; clear fin; go_simp; clear k0 k1 k2 k3 k4 y0 y1 y2 y3 y4; (try dsimp only); refine hK.out _ _ ?_ (fun hHeld => ?_); (focus ((try dsimp only); exact (PA.out.step FN.out.below).all)); clear hK K
      refine tp 12 hHeld ?_
      try simp only [Act.put, s1, s2, s3, s4, s5, s6]
      refine wpAnyH_done (by kernel_rfl) ?_ _; go_wp2_with fail; go_meet; exact FN.out
     ·go_simp; replace st := hide st.out.al; generalize (V3.alloc kblk) = V4 at *; generalize V3.heap.size = g9 at *; (try dsimp only); refine hK.out _ _ ?_ (fun hHeld => ?_); (focus ((try dsimp only); exact (PA.out.step st.out.1).all)); clear hK K
      try simp only [Act.put, s1, s2, s3, s4, s5, s6]
      refine r1 6 (fun K hK => ?_)
      go_simp; go_at_call 26; refine Calls.mono (st.out.comb1 HA.out IS.out OA.out.1) ?_; rintro e V5 ⟨r, rfl, ho, ht, hl⟩; replace st := hide ho; have TI := hide ht; have KL := hide hl; clear ho ht hl; (try dsimp only); refine hK.out _ _ ?_ (fun hHeld => ?_); (focus ((try dsimp only); exact (PA.out.step st.out.1).all)); clear hK K
      refine tp 7 hHeld ?_
      try simp only [Act.put, s1, s2, s3, s4, s5, s6]
      refine tp 8 hHeld ?_
      refine tp 9 hHeld ?_
      try simp only [Act.put, s1, s2, s3, s4, s5, s6]
      refine r1 11 (fun K hK => ?_)
      obtain ⟨⟨k0, k1, k2, k3, k4⟩, ⟨y0, y1, y2, y3, y4⟩, fin⟩ := st.out.put TI.out KL.out; have FN := hide fin; clear fin; go_simp; clear k0 k1 k2 k3 k4 y0 y1 y2 y3 y4; (try dsimp only); refine hK.out _ _ ?_ (fun hHeld => ?_); (focus ((try dsimp only); exact (PA.out.step FN.out.below).all)); clear hK K
      refine tp 12 hHeld ?_
      try simp only [Act.put, s1, s2, s3, s4, s5, s6]
      refine wpAnyH_done (by kernel_rfl) ?_ _; go_wp2_with fail; go_meet; exact FN.out
    ·go_simp; replace st := hide st.out.al; generalize (V2.alloc kblk) = V3 at *; generalize V2.heap.size = g9 at *; (try dsimp only); refine hK.out _ _ ?_ (fun hHeld => ?_); (focus ((try dsimp only); exact (PA.out.step st.out.1).all)); clear hK K
     try simp only [Act.put, s1, s2, s3, s4, s5, s6]
     refine r1 3 (fun K hK => ?_)
     go_simp; replace st := hide (st.out.fb #[.bool z0.s, sv z0.u, sv z0.t] rfl (by simp [maxLen])); generalize (V3.alloc (.cells #[.bool z0.s, sv z0.u, sv z0.t] 42)) = V4 at *; generalize V3.heap.size = gr at *; (try dsimp only); refine hK.out _ _ ?_ (fun hHeld => ?_); (focus ((try dsimp only); exact (PA.out.step st.out.1).all)); clear hK K
     try simp only [Act.put, s1, s2, s3, s4, s5, s6]
     refine r1 6 (fun K hK => ?_)
     go_simp; go_at_call 26; refine Calls.mono (st.out.comb1 HA.out IS.out OA.out.1) ?_; rintro e V5 ⟨r, rfl, ho, ht, hl⟩; replace st := hide ho; have TI := hide ht; have KL := hide hl; clear ho ht hl; (try dsimp only); refine hK.out _ _ ?_ (fun hHeld => ?_); (focus ((try dsimp only); exact (PA.out.step st.out.1).all)); clear hK K
     refine tp 7 hHeld ?_
     try simp only [Act.put, s1, s2, s3, s4, s5, s6]
     refine tp 8 hHeld ?_
     refine tp 9 hHeld ?_
     try simp only [Act.put, s1, s2, s3, s4, s5, s6]
     refine r1 11 (fun K hK => ?_)
     obtain ⟨⟨k0, k1, k2, k3, k4⟩, ⟨y0, y1, y2, y3, y4⟩, fin⟩ := st.out.put TI.out KL.out; have FN := hide fin; clear fin; go_simp; clear k0 k1 k2 k3 k4 y0 y1 y2 y3 y4; (try dsimp only); refine hK.out _ _ ?_ (fun hHeld => ?_); (focus ((try dsimp only); exact (PA.out.step FN.out.below).all)); clear hK K
     refine tp 12 hHeld ?_
     try simp only [Act.put, s1, s2, s3, s4, s5, s6]
     refine wpAnyH_done (by kernel_rfl) ?_ _; go_wp2_with fail; go_meet; exact FN.out
   ·go_simp; replace st := hide st.out.al; generalize (V1.alloc kblk) = V2 at *; generalize V1.heap.size = g9 at *; (try dsimp only); refine hK.out _ _ ?_ (fun hHeld => ?_); (focus ((try dsimp only); exact (PA.out.step st.out.1).all)); clear hK K
    try simp only [Act.put, s1, s2, s3, s4, s5, s6]
    refine r1 2 (fun K hK => ?_)
    go_simp; go_at_call 47; refine Calls.mono (whole11_g _ 1 (by omega) (by omega)) ?_; rintro e V3 ⟨z0, rfl, hz, rz, bx⟩; replace st := hide (st.out.wh (zs' := [z0]) bx rz.1.ra hz rfl); clear hz rz bx; (try dsimp only); refine hK.out _ _ ?_ (fun hHeld => ?_); (focus ((try dsimp only); exact (PA.out.step st.out.1).all)); clear hK K
    try simp only [Act.put, s1, s2, s3, s4, s5, s6]
    refine r1 3 (fun K hK => ?_)
    go_simp; replace st := hide (st.out.fb #[.bool z0.s, sv z0.u, sv z0.t] rfl (by simp [maxLen])); generalize (V3.alloc (.cells #[.bool z0.s, sv z0.u, sv z0.t] 42)) = V4 at *; generalize V3.heap.size = gr at *; (try dsimp only); refine hK.out _ _ ?_ (fun hHeld => ?_); (focus ((try dsimp only); exact (PA.out.step st.out.1).all)); clear hK K
    try simp only [Act.put, s1, s2, s3, s4, s5, s6]
    refine r1 6 (fun K hK => ?_)
    go_simp; go_at_call 26; refine Calls.mono (st.out.comb1 HA.out IS.out OA.out.1) ?_; rintro e V5 ⟨r, rfl, ho, ht, hl⟩; replace st := hide ho; have TI := hide ht; have KL := hide hl; clear ho ht hl; (try dsimp only); refine hK.out _ _ ?_ (fun hHeld => ?_); (focus ((try dsimp only); exact (PA.out.step st.out.1).all)); clear hK K
    refine tp 7 hHeld ?_
    try simp only [Act.put, s1, s2, s3, s4, s5, s6]
    refine tp 8 hHeld ?_
    refine tp 9 hHeld ?_
    try simp only [Act.put, s1, s2, s3, s4, s5, s6]
    refine r1 11 (fun K hK => ?_)
    obtain ⟨⟨k0, k1, k2, k3, k4⟩, ⟨y0, y1, y2, y3, y4⟩, fin⟩ := st.out.put TI.out KL.out; have FN := hide fin; clear fin; go_simp; clear k0 k1 k2 k3 k4 y0 y1 y2 y3 y4; (try dsimp only); refine hK.out _ _ ?_ (fun hHeld => ?_); (focus ((try dsimp only); exact (PA.out.step FN.out.below).all)); clear hK K
    refine tp 12 hHeld ?_
    try simp only [Act.put, s1, s2, s3, s4, s5, s6]
    refine wpAnyH_done (by kernel_rfl) ?_ _; go_wp2_with fail; go_meet; exact FN.out
  ·go_simp; go_at_call 47; refine Calls.mono (whole11_g _ 1 (by omega) (by omega)) ?_; rintro e V1 ⟨z0, rfl, hz, rz, bx⟩; replace st := hide (st.out.wh (zs' := [z0]) bx rz.1.ra hz rfl); clear hz rz bx; (try dsimp only); refine hK.out _ _ ?_ (fun hHeld => ?_); (focus ((try dsimp only); exact (PA.out.step st.out.1).all)); clear hK K
   try simp only [Act.put, s1, s2, s3, s4, s5, s6]
   refine r3 1 3 10 (fun K hK => ?_) (fun K hK => ?_) (fun K hK => ?_)
   ·go_simp; replace st := hide (st.out.lb #[.int .i64 a.s, sv a.v, .bool a.x.s, sv a.x.u, sv a.x.t] rfl (by simp [maxLen])); generalize (V1.alloc (.cells #[.int .i64 a.s, sv a.v, .bool a.x.s, sv a.x.u, sv a.x.t] 54)) = V2 at *; generalize V1.heap.size = gk at *; (try dsimp only); refine hK.out _ _ ?_ (fun hHeld => ?_); (focus ((try dsimp only); exact (PA.out.step st.out.1).all)); clear hK K
    try simp only [Act.put, s1, s2, s3, s4, s5, s6]
    refine r2 3 10 (fun K hK => ?_) (fun K hK => ?_)
    ·go_simp; replace st := hide (st.out.fb #[.bool z0.s, sv z0.u, sv z0.t] rfl (by simp [maxLen])); generalize (V2.alloc (.cells #[.bool z0.s, sv z0.u, sv z0.t] 42)) = V3 at *; generalize V2.heap.size = gr at *; (try dsimp only); refine hK.out _ _ ?_ (fun hHeld => ?_); (focus ((try dsimp only); exact (PA.out.step st.out.1).all)); clear hK K
     try simp only [Act.put, s1, s2, s3, s4, s5, s6]
     refine r2 6 10 (fun K hK => ?_) (fun K hK => ?_)
     ·go_simp; go_at_call 26; refine Calls.mono (st.out.comb1 HA.out IS.out OA.out.1) ?_; rintro e V4 ⟨r, rfl, ho, ht, hl⟩; replace st := hide ho; have TI := hide ht; have KL := hide hl; clear ho ht hl; (try dsimp only); refine hK.out _ _ ?_ (fun hHeld => ?_); (focus ((try dsimp only); exact (PA.out.step st.out.1).all)); clear hK K
      refine tp 7 hHeld ?_
      try simp only [Act.put, s1, s2, s3, s4, s5, s6]
      refine tp 8 hHeld ?_
      refine tp 9 hHeld ?_
      try simp only [Act.put, s1, s2, s3, s4, s5, s6]
      refine r1 10 (fun K hK => ?_)
      go_simp; replace st := hide st.out.al; generalize (V4.alloc kblk) = V5 at *; generalize V4.heap.size = g9 at *; (try dsimp only); refine hK.out _ _ ?_ (fun hHeld => ?_); (focus ((try dsimp only); exact (PA.out.step st.out.1).all)); clear hK K
      try simp only [Act.put, s1, s2, s3, s4, s5, s6]
      refine r1 11 (fun K hK => ?_)
      obtain ⟨⟨k0, k1, k2, k3, k4⟩, ⟨y0, y1, y2, y3, y4⟩, fin⟩ := st.out.put TI.out KL.out; have FN := hide fin; clear fin; go_simp; clear k0 k1 k2 k3 k4 y0 y1 y2 y3 y4; (try dsimp only); refine hK.out _ _ ?_ (fun hHeld => ?_); (focus ((try dsimp only); exact (PA.out.step FN.out.below).all)); clear hK K
      refine tp 12 hHeld ?_
      try simp only [Act.put, s1, s2, s3, s4, s5, s6]
      refine wpAnyH_done (by kernel_rfl) ?_ _; go_wp2_with fail; go_meet; exact FN.out
     ·go_simp; replace st := hide st.out.al; generalize (V3.alloc kblk) = V4 at *; generalize V3.heap.size = g9 at *; (try dsimp only); refine hK.out _ _ ?_ (fun hHeld => ?_); (focus ((try dsimp only); exact (PA.out.step st.out.1).all)); clear hK K
      try simp only [Act.put, s1, s2, s3, s4, s5, s6]
      refine r1 6 (fun K hK => ?_)
      go_simp; go_at_call 26; refine Calls.mono (st.out.comb1 HA.out IS.out OA.out.1) ?_; rintro e V5 ⟨r, rfl, ho, ht, hl⟩; replace st := hide ho; have TI := hide ht; have KL := hide hl; clear ho ht hl; (try dsimp only); refine hK.out _ _ ?_ (fun hHeld => ?_); (focus ((try dsimp only); exact (PA.out.step st.out.1).all)); clear hK K
      refine tp 7 hHeld ?_
      try simp only [Act.put, s1, s2, s3, s4, s5, s6]
      refine tp 8 hHeld ?_
      refine tp 9 hHeld ?_
      try simp only [Act.put, s1, s2, s3, s4, s5, s6]
      refine r1 11 (fun K hK => ?_)
      obtain ⟨⟨k0, k1, k2, k3, k4⟩, ⟨y0, y1, y2, y3, y4⟩, fin⟩ := st.out.put TI.out KL.out; have FN := hide fin; clear fin; go_simp; clear k0 k1 k2 k3 k4 y0 y1 y2 y3 y4; (try dsimp only); refine hK.out _ _ ?_ (fun hHeld => ?_); (focus ((try dsimp only); exact (PA.out.step FN.out.below).all)); clear hK K
      refine tp 12 hHeld ?_
      try simp only [Act.put, s1, s2, s3, s4, s5, s6]
      refine wpAnyH_done (by kernel_rfl) ?_ _; go_wp2_with fail; go_meet; exact FN.out
    ·go_simp; replace st := hide st.out.al; generalize (V2.alloc kblk) = V3 at *; generalize V2.heap.size = g9 at *; (try dsimp only); refine hK.out _ _ ?_ (fun hHeld => ?_); (focus ((try dsimp only); exact (PA.out.step st.out.1).all)); clear hK K
     try simp only [Act.put, s1, s2, s3, s4, s5, s6]
     refine r1 3 (fun K hK => ?_)
     go_simp; replace st := hide (st.out.fb #[.bool z0.s, sv z0.u, sv z0.t] rfl (by simp [maxLen])); generalize (V3.alloc (.cells #[.bool z0.s, sv z0.u, sv z0.t] 42)) = V4 at *; generalize V3.heap.size = gr at *; (try dsimp only); refine hK.out _ _ ?_ (fun hHeld => ?_); (focus ((try dsimp only); exact (PA.out.step st.out.1).all)); clear hK K
     try simp only [Act.put, s1, s2, s3, s4, s5, s6]
     refine r1 6 (fun K hK => ?_)
     go_simp; go_at_call 26; refine Calls.mono (st.out.comb1 HA.out IS.out OA.out.1) ?_; rintro e V5 ⟨r, rfl, ho, ht, hl⟩; replace st := hide ho; have TI := hide ht; have KL := hide hl; clear ho ht hl; (try dsimp only); refine hK.out _ _ ?_ (fun hHeld => ?_); (focus ((try dsimp only); exact (PA.out.step st.out.1).all)); clear hK K
     refine tp 7 hHeld ?_
     try simp only [Act.put, s1, s2, s3, s4, s5, s6]
     refine tp 8 hHeld ?_
     refine tp 9 hHeld ?_
     try simp only [Act.put, s1, s2, s3, s4, s5, s6]
     refine r1 11 (fun K hK => ?_)
     obtain ⟨⟨k0, k1, k2, k3, k4⟩, ⟨y0, y1, y2, y3, y4⟩, fin⟩ := st.out.put TI.out KL.out; have FN := hide fin; clear fin; go_simp; clear k0 k1 k2 k3 k4 y0 y1 y2 y3 y4; (try dsimp only); refine hK.out _ _ ?_ (fun hHeld => ?_); (focus ((try dsimp only); exact (PA.out.step FN.out.below).all)); clear hK K
     refine tp 12 hHeld ?_
     try simp only [Act.put, s1, s2, s3, s4, s5, s6]
     refine wpAnyH_done (by kernel_rfl) ?_ _; go_wp2_with fail; go_meet; exact FN.out
   ·go_simp; replace st := hide (st.out.fb #[.bool z0.s, sv z0.u, sv z0.t] rfl (by simp [maxLen])); generalize (V1.alloc (.cells #[.bool z0.s, sv z0.u, sv z0.t] 42)) = V2 at *; generalize V1.heap.size = gr at *; (try dsimp only); refine hK.out _ _ ?_ (fun hHeld => ?_); (focus ((try dsimp only); exact (PA.out.step st.out.1).all)); clear hK K
    try simp only [Act.put, s1, s2, s3, s4, s5, s6]
    refine r2 1 10 (fun K hK => ?_) (fun K hK => ?_)
    ·go_simp; replace st := hide (st.out.lb #[.int .i64 a.s, sv a.v, .bool a.x.s, sv a.x.u, sv a.x.t] rfl (by simp [maxLen])); generalize (V2.alloc (.cells #[.int .i64 a.s, sv a.v, .bool a.x.s, sv a.x.u, sv a.x.t] 54)) = V3 at *; generalize V2.heap.size = gk at *; (try dsimp only); refine hK.out _ _ ?_ (fun hHeld => ?_); (focus ((try dsimp only); exact (PA.out.step st.out.1).all)); clear hK K
     try simp only [Act.put, s1, s2, s3, s4, s5, s6]
     refine r2 6 10 (fun K hK => ?_) (fun K hK => ?_)
     ·go_simp; go_at_call 26; refine Calls.mono (st.out.comb1 HA.out IS.out OA.out.1) ?_; rintro e V4 ⟨r, rfl, ho, ht, hl⟩; replace st := hide ho; have TI := hide ht; have KL := hide hl; clear ho ht hl; (try dsimp only); refine hK.out _ _ ?_ (fun hHeld => ?_); (focus ((try dsimp only); exact (PA.out.step st.out.1).all)); clear hK K
      refine tp 7 hHeld ?_
      try simp only [Act.put, s1, s2, s3, s4, s5, s6]
      refine tp 8 hHeld ?_
      refine tp 9 hHeld ?_
      try simp only [Act.put, s1, s2, s3, s4, s5, s6]
      refine r1 10 (fun K hK => ?_)
      go_simp; replace st := hide st.out.al; generalize (V4.alloc kblk) = V5 at *; generalize V4.heap.size = g9 at *; (try dsimp only); refine hK.out _ _ ?_ (fun hHeld => ?_); (focus ((try dsimp only); exact (PA.out.step st.out.1).all)); clear hK K
      try simp only [Act.put, s1, s2, s3, s4, s5, s6]
      refine r1 11 (fun K hK => ?_)
      obtain ⟨⟨k0, k1, k2, k3, k4⟩, ⟨y0, y1, y2, y3, y4⟩, fin⟩ := st.out.put TI.out KL.out; have FN := hide fin; clear fin; go_simp; clear k0 k1 k2 k3 k4 y0 y1 y2 y3 y4; (try dsimp only); refine hK.out _ _ ?_ (fun hHeld => ?_); (focus ((try dsimp only); exact (PA.out.step FN.out.below).all)); clear hK K
      refine tp 12 hHeld ?_
      try simp only [Act.put, s1, s2, s3, s4, s5, s6]
      refine wpAnyH_done (by kernel_rfl) ?_ _; go_wp2_with fail; go_meet; exact FN.out
     ·go_simp; replace st := hide st.out.al; generalize (V3.alloc kblk) = V4 at *; generalize V3.heap.size = g9 at *; (try dsimp only); refine hK.out _ _ ?_ (fun hHeld => ?_); (focus ((try dsimp only); exact (PA.out.step st.out.1).all)); clear hK K
      try simp only [Act.put, s1, s2, s3, s4, s5, s6]
      refine r1 6 (fun K hK => ?_)
      go_simp; go_at_call 26; refine Calls.mono (st.out.comb1 HA.out IS.out OA.out.1) ?_; rintro e V5 ⟨r, rfl, ho, ht, hl⟩; replace st := hide ho; have TI := hide ht; have KL := hide hl; clear ho ht hl; (try dsimp only); refine hK.out _ _ ?_ (fun hHeld => ?_); (focus ((try dsimp only); exact (PA.out.step st.out.1).all)); clear hK K
      refine tp 7 hHeld ?_
      try simp only [Act.put, s1, s2, s3, s4, s5, s6]
      refine tp 8 hHeld ?_
      refine tp 9 hHeld ?_
      try simp only [Act.put, s1, s2, s3, s4, s5, s6]
      refine r1 11 (fun K hK => ?_)
      obtain ⟨⟨k0, k1, k2, k3, k4⟩, ⟨y0, y1, y2, y3, y4⟩, fin⟩ := st.out.put TI.out KL.out; have FN := hide fin; clear fin; go_simp; clear k0 k1 k2 k3 k4 y0 y1 y2 y3 y4; (try dsimp only); refine hK.out _ _ ?_ (fun hHeld => ?_); (focus ((try dsimp only); exact (PA.out.step FN.out.below).all)); clear hK K
      refine tp 12 hHeld ?_
      try simp only [Act.put, s1, s2, s3, s4, s5, s6]
      refine wpAnyH_done (by kernel_rfl) ?_ _; go_wp2_with fail; go_meet; exact FN.out
    ·go_simp; replace st := hide st.out.al; generalize (V2.alloc kblk) = V3 at *; generalize V2.heap.size = g9 at *; (try dsimp only); refine hK.out _ _ ?_ (fun hHeld => ?_); (focus ((try dsimp only); exact (PA.out.step st.out.1).all)); clear hK K
     try simp only [Act.put, s1, s2, s3, s4, s5, s6]
     refine r1 1 (fun K hK => ?_)
     go_simp; replace st := hide (st.out.lb #[.int .i64 a.s, sv a.v, .bool a.x.s, sv a.x.u, sv a.x.t] rfl (by simp [maxLen])); generalize (V3.alloc (.cells #[.int .i64 a.s, sv a.v, .bool a.x.s, sv a.x.u, sv a.x.t] 54)) = V4 at *; generalize V3.heap.size = gk at *; (try dsimp only); refine hK.out _ _ ?_ (fun hHeld => ?_); (focus ((try dsimp only); exact (PA.out.step st.out.1).all)); clear hK K
     try simp only [Act.put, s1, s2, s3, s4, s5, s6]
     refine r1 6 (fun K hK => ?_)
     go_simp; go_at_call 26; refine Calls.mono (st.out.comb1 HA.out IS.out OA.out.1) ?_; rintro e V5 ⟨r, rfl, ho, ht, hl⟩; replace st := hide ho; have TI := hide ht; have KL := hide hl; clear ho ht hl; (try dsimp only); refine hK.out _ _ ?_ (fun hHeld => ?_); (focus ((try dsimp only); exact (PA.out.step st.out.1).all)); clear hK K
     refine tp 7 hHeld ?_
     try simp only [Act.put, s1, s2, s3, s4, s5, s6]
     refine tp 8 hHeld ?_
     refine tp 9 hHeld ?_
     try simp only [Act.put, s1, s2, s3, s4, s5, s6]
     refine r1 11 (fun K hK => ?_)
     obtain ⟨⟨k0, k1, k2, k3, k4⟩, ⟨y0, y1, y2, y3, y4⟩, fin⟩ := st.out.put TI.out KL.out; have FN := hide fin; clear fin; go_simp; clear k0 k1 k2 k3 k4 y0 y1 y2 y3 y4; (try dsimp only); refine hK.out _ _ ?_ (fun hHeld => ?_); (focus ((try dsimp only); exact (PA.out.step FN.out.below).all)); clear hK K
     refine tp 12 hHeld ?_
     try simp only [Act.put, s1, s2, s3, s4, s5, s6]
     refine wpAnyH_done (by kernel_rfl) ?_ _; go_wp2_with fail; go_meet; exact FN.out
   ·go_simp; replace st := hide st.out.al; generalize (V1.alloc kblk) = V2 at *; generalize V1.heap.size = g9 at *; (try dsimp only); refine hK.out _ _ ?_ (fun hHeld => ?_); (focus ((try dsimp only); exact (PA.out.step st.out.1).all)); clear hK K
    try simp only [Act.put, s1, s2, s3, s4, s5, s6]
    refine r2 1 3 (fun K hK => ?_) (fun K hK => ?_)
    ·go_simp; replace st := hide (st.out.lb #[.int .i64 a.s, sv a.v, .bool a.x.s, sv a.x.u, sv a.x.t] rfl (by simp [maxLen])); generalize (V2.alloc (.cells #[.int .i64 a.s, sv a.v, .bool a.x.s, sv a.x.u, sv a.x.t] 54)) = V3 at *; generalize V2.heap.size = gk at *; (try dsimp only); refine hK.out _ _ ?_ (fun hHeld => ?_); (focus ((try dsimp only); exact (PA.out.step st.out.1).all)); clear hK K
     try simp only [Act.put, s1, s2, s3, s4, s5, s6]
     refine r1 3 (fun K hK => ?_)
     go_simp; replace st := hide (st.out.fb #[.bool z0.s, sv z0.u, sv z0.t] rfl (by simp [maxLen])); generalize (V3.alloc (.cells #[.bool z0.s, sv z0.u, sv z0.t] 42)) = V4 at *; generalize V3.heap.size = gr at *; (try dsimp only); refine hK.out _ _ ?_ (fun hHeld => ?_); (focus ((try dsimp only); exact (PA.out.step st.out.1).all)); clear hK K
     try simp only [Act.put, s1, s2, s3, s4, s5, s6]
     refine r1 6 (fun K hK => ?_)
     go_simp; go_at_call 26; refine Calls.mono (st.out.comb1 HA.out IS.out OA.out.1) ?_; rintro e V5 ⟨r, rfl, ho, ht, hl⟩; replace st := hide ho; have TI := hide ht; have KL := hide hl; clear ho ht hl; (try dsimp only); refine hK.out _ _ ?_ (fun hHeld => ?_); (focus ((try dsimp only); exact (PA.out.step st.out.1).all)); clear hK K
     refine tp 7 hHeld ?_
     try simp only [Act.put, s1, s2, s3, s4, s5, s6]
     refine tp 8 hHeld ?_
     refine tp 9 hHeld ?_
     try simp only [Act.put, s1, s2, s3, s4, s5, s6]
     refine r1 11 (fun K hK => ?_)
     obtain ⟨⟨k0, k1, k2, k3, k4⟩, ⟨y0, y1, y2, y3, y4⟩, fin⟩ := st.out.put TI.out KL.out; have FN := hide fin; clear fin; go_simp; clear k0 k1 k2 k3 k4 y0 y1 y2 y3 y4; (try dsimp only); refine hK.out _ _ ?_ (fun hHeld => ?_); (focus ((try dsimp only); exact (PA.out.step FN.out.below).all)); clear hK K
     refine tp 12 hHeld ?_
     try simp only [Act.put, s1, s2, s3, s4, s5, s6]
     refine wpAnyH_done (by kernel_rfl) ?_ _; go_wp2_with fail; go_meet; exact FN.out
    ·go_simp; replace st := hide (st.out.fb #[.bool z0.s, sv z0.u, sv z0.t] rfl (by simp [maxLen])); generalize (V2.alloc (.cells #[.bool z0.s, sv z0.u, sv z0.t] 42)) = V3 at *; generalize V2.heap.size = gr at *; (try dsimp only); refine hK.out _ _ ?_ (fun hHeld => ?_); (focus ((try dsimp only); exact (PA.out.step st.out.1).all)); clear hK K
     try simp only [Act.put, s1, s2, s3, s4, s5, s6]
     refine r1 1 (fun K hK => ?_)
     go_simp; replace st := hide (st.out.lb #[.int .i64 a.s, sv a.v, .bool a.x.s, sv a.x.u, sv a.x.t] rfl (by simp [maxLen])); generalize (V3.alloc (.cells #[.int .i64 a.s, sv a.v, .bool a.x.s, sv a.x.u, sv a.x.t] 54)) = V4 at *; generalize V3.heap.size = gk at *; (try dsimp only); refine hK.out _ _ ?_ (fun hHeld => ?_); (focus ((try dsimp only); exact (PA.out.step st.out.1).all)); clear hK K
     try simp only [Act.put, s1, s2, s3, s4, s5, s6]
     refine r1 6 (fun K hK => ?_)
     go_simp; go_at_call 26; refine Calls.mono (st.out.comb1 HA.out IS.out OA.out.1) ?_; rintro e V5 ⟨r, rfl, ho, ht, hl⟩; replace st := hide ho; have TI := hide ht; have KL := hide hl; clear ho ht hl; (try dsimp only); refine hK.out _ _ ?_ (fun hHeld => ?_); (focus ((try dsimp only); exact (PA.out.step st.out.1).all)); clear hK K
     refine tp 7 hHeld ?_
     try simp only [Act.put, s1, s2, s3, s4, s5, s6]
     refine tp 8 hHeld ?_
     refine tp 9 hHeld ?_
     try simp only [Act.put, s1, s2, s3, s4, s5, s6]
     refine r1 11 (fun K hK => ?_)
     obtain ⟨⟨k0, k1, k2, k3, k4⟩, ⟨y0, y1, y2, y3, y4⟩, fin⟩ := st.out.put TI.out KL.out; have FN := hide fin; clear fin; go_simp; clear k0 k1 k2 k3 k4 y0 y1 y2 y3 y4; (try dsimp only); refine hK.out _ _ ?_ (fun hHeld => ?_); (focus ((try dsimp only); exact (PA.out.step FN.out.below).all)); clear hK K
     refine tp 12 hHeld ?_
     try simp only [Act.put, s1, s2, s3, s4, s5, s6]
     refine wpAnyH_done (by kernel_rfl) ?_ _; go_wp2_with fail; go_meet; exact FN.out
  ·go_simp; replace st := hide st.out.al; generalize (V0.alloc kblk) = V1 at *; generalize V0.heap.size = g9 at *; (try dsimp only); refine hK.out _ _ ?_ (fun hHeld => ?_); (focus ((try dsimp only); exact (PA.out.step st.out.1).all)); clear hK K
   try simp only [Act.put, s1, s2, s3, s4, s5, s6]
   refine r2 1 2 (fun K hK => ?_) (fun K hK => ?_)
   ·go_simp; replace st := hide (st.out.lb #[.int .i64 a.s, sv a.v, .bool a.x.s, sv a.x.u, sv a.x.t] rfl (by simp [maxLen])); generalize (V1.alloc (.cells #[.int .i64 a.s, sv a.v, .bool a.x.s, sv a.x.u, sv a.x.t] 54)) = V2 at *; generalize V1.heap.size = gk at *; (try dsimp only); refine hK.out _ _ ?_ (fun hHeld => ?_); (focus ((try dsimp only); exact (PA.out.step st.out.1).all)); clear hK K
    try simp only [Act.put, s1, s2, s3, s4, s5, s6]
    refine r1 2 (fun K hK => ?_)
    go_simp; go_at_call 47; refine Calls.mono (whole11_g _ 1 (by omega) (by omega)) ?_; rintro e V3 ⟨z0, rfl, hz, rz, bx⟩; replace st := hide (st.out.wh (zs' := [z0]) bx rz.1.ra hz rfl); clear hz rz bx; (try dsimp only); refine hK.out _ _ ?_ (fun hHeld => ?_); (focus ((try dsimp only); exact (PA.out.step st.out.1).all)); clear hK K
    try simp only [Act.put, s1, s2, s3, s4, s5, s6]
    refine r1 3 (fun K hK => ?_)
    go_simp; replace st := hide (st.out.fb #[.bool z0.s, sv z0.u, sv z0.t] rfl (by simp [maxLen])); generalize (V3.alloc (.cells #[.bool z0.s, sv z0.u, sv z0.t] 42)) = V4 at *; generalize V3.heap.size = gr at *; (try dsimp only); refine hK.out _ _ ?_ (fun hHeld => ?_); (focus ((try dsimp only); exact (PA.out.step st.out.1).all)); clear hK K
    try simp only [Act.put, s1, s2, s3, s4, s5, s6]
    refine r1 6 (fun K hK => ?_)
    go_simp; go_at_call 26; refine Calls.mono (st.out.comb1 HA.out IS.out OA.out.1) ?_; rintro e V5 ⟨r, rfl, ho, ht, hl⟩; replace st := hide ho; have TI := hide ht; have KL := hide hl; clear ho ht hl; (try dsimp only); refine hK.out _ _ ?_ (fun hHeld => ?_); (focus ((try dsimp only); exact (PA.out.step st.out.1).all)); clear hK K
    refine tp 7 hHeld ?_
    try simp only [Act.put, s1, s2, s3, s4, s5, s6]
    refine tp 8 hHeld ?_
    refine tp 9 hHeld ?_
    try simp only [Act.put, s1, s2, s3, s4, s5, s6]
    refine r1 11 (fun K hK => ?_)
    obtain ⟨⟨k0, k1, k2, k3, k4⟩, ⟨y0, y1, y2, y3, y4⟩, fin⟩ := st.out.put TI.out KL.out; have FN := hide fin; clear fin; go_simp; clear k0 k1 k2 k3 k4 y0 y1 y2 y3 y4; (try dsimp only); refine hK.out _ _ ?_ (fun hHeld => ?_); (focus ((try dsimp only); exact (PA.out.step FN.out.below).all)); clear hK K
    refine tp 12 hHeld ?_
    try simp only [Act.put, s1, s2, s3, s4, s5, s6]
    refine wpAnyH_done (by kernel_rfl) ?_ _; go_wp2_with fail; go_meet; exact FN.out
   ·go_simp; go_at_call 47; refine Calls.mono (whole11_g _ 1 (by omega) (by omega)) ?_; rintro e V2 ⟨z0, rfl, hz, rz, bx⟩; replace st := hide (st.out.wh (zs' := [z0]) bx rz.1.ra hz rfl); clear hz rz bx; (try dsimp only); refine hK.out _ _ ?_ (fun hHeld => ?_); (focus ((try dsimp only); exact (PA.out.step st.out.1).all)); clear hK K
    try simp only [Act.put, s1, s2, s3, s4, s5, s6]
    refine r2 1 3 (fun K hK => ?_) (fun K hK => ?_)
    ·go_simp; replace st := hide (st.out.lb #[.int .i64 a.s, sv a.v, .bool a.x.s, sv a.x.u, sv a.x.t] rfl (by simp [maxLen])); generalize (V2.alloc (.cells #[.int .i64 a.s, sv a.v, .bool a.x.s, sv a.x.u, sv a.x.t] 54)) = V3 at *; generalize V2.heap.size = gk at *; (try dsimp only); refine hK.out _ _ ?_ (fun hHeld => ?_); (focus ((try dsimp only); exact (PA.out.step st.out.1).all)); clear hK K
     try simp only [Act.put, s1, s2, s3, s4, s5, s6]
     refine r1 3 (fun K hK => ?_)
     go_simp; replace st := hide (st.out.fb #[.bool z0.s, sv z0.u, sv z0.t] rfl (by simp [maxLen])); generalize (V3.alloc (.cells #[.bool z0.s, sv z0.u, sv z0.t] 42)) = V4 at *; generalize V3.heap.size = gr at *; (try dsimp only); refine hK.out _ _ ?_ (fun hHeld => ?_); (focus ((try dsimp only); exact (PA.out.step st.out.1).all)); clear hK K
     try simp only [Act.put, s1, s2, s3, s4, s5, s6]
     refine r1 6 (fun K hK => ?_)
     go_simp; go_at_call 26; refine Calls.mono (st.out.comb1 HA.out IS.out OA.out.1) ?_; rintro e V5 ⟨r, rfl, ho, ht, hl⟩; replace st := hide ho; have TI := hide ht; have KL := hide hl; clear ho ht hl; (try dsimp only); refine hK.out _ _ ?_ (fun hHeld => ?_); (focus ((try dsimp only); exact (PA.out.step st.out.1).all)); clear hK K
     refine tp 7 hHeld ?_
     try simp only [Act.put, s1, s2, s3, s4, s5, s6]
     refine tp 8 hHeld ?_
     refine tp 9 hHeld ?_
     try simp only [Act.put, s1, s2, s3, s4, s5, s6]
     refine r1 11 (fun K hK => ?_)
     obtain ⟨⟨k0, k1, k2, k3, k4⟩, ⟨y0, y1, y2, y3, y4⟩, fin⟩ := st.out.put TI.out KL.out; have FN := hide fin; clear fin; go_simp; clear k0 k1 k2 k3 k4 y0 y1 y2 y3 y4; (try dsimp only); refine hK.out _ _ ?_ (fun hHeld => ?_); (focus ((try dsimp only); exact (PA.out.step FN.out.below).all)); clear hK K
     refine tp 12 hHeld ?_
     try simp only [Act.put, s1, s2, s3, s4, s5, s6]
     refine wpAnyH_done (by kernel_rfl) ?_ _; go_wp2_with fail; go_meet; exact FN.out
    ·go_simp; replace st := hide (st.out.fb #[.bool z0.s, sv z0.u, sv z0.t] rfl (by simp [maxLen])); generalize (V2.alloc (.cells #[.bool z0.s, sv z0.u, sv z0.t] 42)) = V3 at *; generalize V2.heap.size = gr at *; (try dsimp only); refine hK.out _ _ ?_ (fun hHeld => ?_); (focus ((try dsimp only); exact (PA.out.step st.out.1).all)); clear hK K
     try simp only [Act.put, s1, s2, s3, s4, s5, s6]
     refine r1 1 (fun K hK => ?_)
     go_simp; replace st := hide (st.out.lb #[.int .i64 a.s, sv a.v, .bool a.x.s, sv a.x.u, sv a.x.t] rfl (by simp [maxLen])); generalize (V3.alloc (.cells #[.int .i64 a.s, sv a.v, .bool a.x.s, sv a.x.u, sv a.x.t] 54)) = V4 at *; generalize V3.heap.size = gk at *; (try dsimp only); refine hK.out _ _ ?_ (fun hHeld => ?_); (focus ((try dsimp only); exact (PA.out.step st.out.1).all)); clear hK K
     try simp only [Act.put, s1, s2, s3, s4, s5, s6]
     refine r1 6 (fun K hK => ?_)
     go_simp; go_at_call 26; refine Calls.mono (st.out.comb1 HA.out IS.out OA.out.1) ?_; rintro e V5 ⟨r, rfl, ho, ht, hl⟩; replace st := hide ho; have TI := hide ht; have KL := hide hl; clear ho ht hl; (try dsimp only); refine hK.out _ _ ?_ (fun hHeld => ?_); (focus ((try dsimp only); exact (PA.out.step st.out.1).all)); clear hK K
     refine tp 7 hHeld ?_
     try simp only [Act.put, s1, s2, s3, s4, s5, s6]
     refine tp 8 hHeld ?_
     refine tp 9 hHeld ?_
     try simp only [Act.put, s1, s2, s3, s4, s5, s6]
     refine r1 11 (fun K hK => ?_)
     obtain ⟨⟨k0, k1, k2, k3, k4⟩, ⟨y0, y1, y2, y3, y4⟩, fin⟩ := st.out.put TI.out KL.out; have FN := hide fin; clear fin; go_simp; clear k0 k1 k2 k3 k4 y0 y1 y2 y3 y4; (try dsimp only); refine hK.out _ _ ?_ (fun hHeld => ?_); (focus ((try dsimp only); exact (PA.out.step FN.out.below).all)); clear hK K
     refine tp 12 hHeld ?_
     try simp only [Act.put, s1, s2, s3, s4, s5, s6]
     refine wpAnyH_done (by kernel_rfl) ?_ _; go_wp2_with fail; go_meet; exact FN.out
 case rest =>
  obtain ⟨g5, r5, rfl, rfl, l5, p5, k5, d5, t5, bx⟩ := hcut
  have P5 := hide p5
  have K5 := hide k5
  have D5 := hide d5
  have T5 := hide t5
  clear p5 k5 d5 t5
  replace PA := hide (PA.out.step bx)
  replace HA := hide (HA.out.step bx)
  replace HU := hide (HU.out.step bx)
  replace B := hide (Below.step B.out B.out.size bx)
  clear bx
  go_wp2_with fail
  go_cut [7, 8] (fun s5 s6 wx => OnTwo wc a 2 s5 s6 wx)
  case first =>
   have st := hide (OSt.start wc [a, a])
   refine wp_region_held_drew (S := fun W => W.cell? ⟨w.heap.size, 0, none⟩ = some (.int .i64 a.s) ∧ W.cell? ⟨w.heap.size, 1, none⟩ = some (sv a.v) ∧ W.cell? ⟨w.heap.size, 2, none⟩ = some (.bool a.x.s) ∧ W.cell? ⟨w.heap.size, 3, none⟩ = some (sv a.x.u) ∧ W.cell? ⟨w.heap.size, 4, none⟩ = some (sv a.x.t)) (by kernel_rfl) ?_ (fun hHeld => ?_)
   ·try dsimp only
    exact (PA.out.step (Below.refl wc.heap.size wc).drew).all
   generalize wc.drew = V0 at *
   refine tk 0 (v := ?_) hHeld ?_ ?_; rotate_left; (focus (intro w hSw; (try dsimp only at hSw); go_simp; (try with_reducible rfl)))
   refine tk 1 (v := ?_) hHeld ?_ ?_; rotate_left; (focus (intro w hSw; (try dsimp only at hSw); go_simp; (try with_reducible rfl)))
   refine tk 6 (v := ?_) hHeld ?_ ?_; rotate_left; (focus (intro w hSw; (try dsimp only at hSw); go_simp; (try with_reducible rfl)))
   try simp only [Act.put, s1, s2, s3, s4, s5, s6]
   refine tk 7 (v := ?_) hHeld ?_ ?_; rotate_left; (focus (intro w hSw; (try dsimp only at hSw); go_simp; (try with_reducible rfl)))
   try simp only [Act.put, s1, s2, s3, s4, s5, s6]
   refine r3 2 3 12 (fun K hK => ?_) (fun K hK => ?_) (fun K hK => ?_)
   ·go_simp; replace st := hide (st.out.lb #[.int .i64 a.s, sv a.v, .bool a.x.s, sv a.x.u, sv a.x.t, .int .i64 a.s, sv a.v, .bool a.x.s, sv a.x.u, sv a.x.t] rfl (by simp [maxLen])); generalize (V0.alloc (.cells #[.int .i64 a.s, sv a.v, .bool a.x.s, sv a.x.u, sv a.x.t, .int .i64 a.s, sv a.v, .bool a.x.s, sv a.x.u, sv a.x.t] 54)) = V1 at *; generalize V0.heap.size = gk at *; (try dsimp only); refine hK.out _ _ ?_ (fun hHeld => ?_); (focus ((try dsimp only); exact (PA.out.step st.out.1).all)); clear hK K
    try simp only [Act.put, s1, s2, s3, s4, s5, s6]
    refine r2 3 12 (fun K hK => ?_) (fun K hK => ?_)
    ·go_simp; go_at_call 47; refine Calls.mono (whole11_g _ 1 (by omega) (by omega)) ?_; rintro e V2 ⟨z0, rfl, hz, rz, bx⟩; replace st := hide (st.out.wh (zs' := [z0]) bx rz.1.ra hz rfl); clear hz rz bx; (try dsimp only); refine hK.out _ _ ?_ (fun hHeld => ?_); (focus ((try dsimp only); exact (PA.out.step st.out.1).all)); clear hK K
     try simp only [Act.put, s1, s2, s3, s4, s5, s6]
     refine r2 4 12 (fun K hK => ?_) (fun K hK => ?_)
     ·go_simp; go_at_call 47; refine Calls.mono (whole11_g _ 1 (by omega) (by omega)) ?_; rintro e V3 ⟨z1, rfl, hz, rz, bx⟩; replace st := hide (st.out.wh (zs' := [z0, z1]) bx rz.1.ra hz rfl); clear hz rz bx; (try dsimp only); refine hK.out _ _ ?_ (fun hHeld => ?_); (focus ((try dsimp only); exact (PA.out.step st.out.1).all)); clear hK K
      try simp only [Act.put, s1, s2, s3, s4, s5, s6]
      refine r2 5 12 (fun K hK => ?_) (fun K hK => ?_)
      ·go_simp; replace st := hide (st.out.fb #[.bool z0.s, sv z0.u, sv z0.t, .bool z1.s, sv z1.u, sv z1.t] rfl (by simp [maxLen])); generalize (V3.alloc (.cells #[.bool z0.s, sv z0.u, sv z0.t, .bool z1.s, sv z1.u, sv z1.t] 42)) = V4 at *; generalize V3.heap.size = gr at *; (try dsimp only); refine hK.out _ _ ?_ (fun hHeld => ?_); (focus ((try dsimp only); exact (PA.out.step st.out.1).all)); clear hK K
       try simp only [Act.put, s1, s2, s3, s4, s5, s6]
       refine r2 8 12 (fun K hK => ?_) (fun K hK => ?_)
       ·go_simp; go_at_call 26; refine Calls.mono (st.out.comb2 HA.out IS.out OA.out.1) ?_; rintro e V5 ⟨r, rfl, ho, ht, hl⟩; replace st := hide ho; have TI := hide ht; have KL := hide hl; clear ho ht hl; (try dsimp only); refine hK.out _ _ ?_ (fun hHeld => ?_); (focus ((try dsimp only); exact (PA.out.step st.out.1).all)); clear hK K
        refine tp 9 hHeld ?_
        try simp only [Act.put, s1, s2, s3, s4, s5, s6]
        refine tp 10 hHeld ?_
        refine tp 11 hHeld ?_
        try simp only [Act.put, s1, s2, s3, s4, s5, s6]
        refine r1 12 (fun K hK => ?_)
        go_simp; replace st := hide st.out.al; generalize (V5.alloc kblk) = V6 at *; generalize V5.heap.size = g9 at *; (try dsimp only); refine hK.out _ _ ?_ (fun hHeld => ?_); (focus ((try dsimp only); exact (PA.out.step st.out.1).all)); clear hK K
        try simp only [Act.put, s1, s2, s3, s4, s5, s6]
        refine r1 13 (fun K hK => ?_)
        obtain ⟨⟨k0, k1, k2, k3, k4⟩, ⟨y0, y1, y2, y3, y4⟩, fin⟩ := st.out.put TI.out KL.out; have FN := hide fin; clear fin; go_simp; clear k0 k1 k2 k3 k4 y0 y1 y2 y3 y4; (try dsimp only); refine hK.out _ _ ?_ (fun hHeld => ?_); (focus ((try dsimp only); exact (PA.out.step FN.out.below).all)); clear hK K
        refine tp 14 hHeld ?_
        try simp only [Act.put, s1, s2, s3, s4, s5, s6]
        refine wpAnyH_done (by kernel_rfl) ?_ _; go_wp2_with fail; go_meet; exact FN.out
       ·go_simp; replace st := hide st.out.al; generalize (V4.alloc kblk) = V5 at *; generalize V4.heap.size = g9 at *; (try dsimp only); refine hK.out _ _ ?_ (fun hHeld => ?_); (focus ((try dsimp only); exact (PA.out.step st.out.1).all)); clear hK K
        try simp only [Act.put, s1, s2, s3, s4, s5, s6]
        refine r1 8 (fun K hK => ?_)
        go_simp; go_at_call 26; refine Calls.mono (st.out.comb2 HA.out IS.out OA.out.1) ?_; rintro e V6 ⟨r, rfl, ho, ht, hl⟩; replace st := hide ho; have TI := hide ht; have KL := hide hl; clear ho ht hl; (try dsimp only); refine hK.out _ _ ?_ (fun hHeld => ?_); (focus ((try dsimp only); exact (PA.out.step st.out.1).all)); clear hK K
        refine tp 9 hHeld ?_
        try simp only [Act.put, s1, s2, s3, s4, s5, s6]
        refine tp 10 hHeld ?_
        refine tp 11 hHeld ?_
        try simp only [Act.put, s1, s2, s3, s4, s5, s6]
        refine r1 13 (fun K hK => ?_)
        obtain ⟨⟨k0, k1, k2, k3, k4⟩, ⟨y0, y1, y2, y3, y4⟩, fin⟩ := st.out.put TI.out KL.out; have FN := hide fin; clear fin; go_simp; clear k0 k1 k2 k3 k4 y0 y1 y2 y3 y4; (try dsimp only); refine hK.out _ _ ?_ (fun hHeld => ?_); (focus ((try dsimp only); exact (PA.out.step FN.out.below).all)); clear hK K
        refine tp 14 hHeld ?_
        try simp only [Act.put, s1, s2, s3, s4, s5, s6]
        refine wpAnyH_done (by kernel_rfl) ?_ _; go_wp2_with fail; go_meet; exact FN.out
      ·go_simp; replace st := hide st.out.al; generalize (V3.alloc kblk) = V4 at *; generalize V3.heap.size = g9 at *; (try dsimp only); refine hK.out _ _ ?_ (fun hHeld => ?_); (focus ((try dsimp only); exact (PA.out.step st.out.1).all)); clear hK K
       try simp only [Act.put, s1, s2, s3, s4, s5, s6]
       refine r1 5 (fun K hK => ?_)
       go_simp; replace st := hide (st.out.fb #[.bool z0.s, sv z0.u, sv z0.t, .bool z1.s, sv z1.u, sv z1.t] rfl (by simp [maxLen])); generalize (V4.alloc (.cells #[.bool z0.s, sv z0.u, sv z0.t, .bool z1.s, sv z1.u, sv z1.t] 42)) = V5 at *; generalize V4.heap.size = gr at *; (try dsimp only); refine hK.out _ _ ?_ (fun hHeld => ?_); (focus ((try dsimp only); exact (PA.out.step st.out.1).all)); clear hK K
       try simp only [Act.put, s1, s2, s3, s4, s5, s6]
       refine r1 8 (fun K hK => ?_)
       go_simp; go_at_call 26; refine Calls.mono (st.out.comb2 HA.out IS.out OA.out.1) ?_; rintro e V6 ⟨r, rfl, ho, ht, hl⟩; replace st := hide ho; have TI := hide ht; have KL := hide hl; clear ho ht hl; (try dsimp only); refine hK.out _ _ ?_ (fun hHeld => ?_); (focus ((try dsimp only); exact (PA.out.step st.out.1).all)); clear hK K
       refine tp 9 hHeld ?_
       try simp only [Act.put, s1, s2, s3, s4, s5, s6]
       refine tp 10 hHeld ?_
       refine tp 11 hHeld ?_
       try simp only [Act.put, s1, s2, s3, s4, s5, s6]
       refine r1 13 (fun K hK => ?_)
       obtain ⟨⟨k0, k1, k2, k3, k4⟩, ⟨y0, y1, y2, y3, y4⟩, fin⟩ := st.out.put TI.out KL.out; have FN := hide fin; clear fin; go_simp; clear k0 k1 k2 k3 k4 y0 y1 y2 y3 y4; (try dsimp only); refine hK.out _ _ ?_ (fun hHeld => ?_); (focus ((try dsimp only); exact (PA.out.step FN.out.below).all)); clear hK K
       refine tp 14 hHeld ?_
       try simp only [Act.put, s1, s2, s3, s4, s5, s6]
       refine wpAnyH_done (by kernel_rfl) ?_ _; go_wp2_with fail; go_meet; exact FN.out
     ·go_simp; replace st := hide st.out.al; generalize (V2.alloc kblk) = V3 at *; generalize V2.heap.size = g9 at *; (try dsimp only); refine hK.out _ _ ?_ (fun hHeld => ?_); (focus ((try dsimp only); exact (PA.out.step st.out.1).all)); clear hK K
      try simp only [Act.put, s1, s2, s3, s4, s5, s6]
      refine r1 4 (fun K hK => ?_)
      go_simp; go_at_call 47; refine Calls.mono (whole11_g _ 1 (by omega) (by omega)) ?_; rintro e V4 ⟨z1, rfl, hz, rz, bx⟩; replace st := hide (st.out.wh (zs' := [z0, z1]) bx rz.1.ra hz rfl); clear hz rz bx; (try dsimp only); refine hK.out _ _ ?_ (fun hHeld => ?_); (focus ((try dsimp only); exact (PA.out.step st.out.1).all)); clear hK K
      try simp only [Act.put, s1, s2, s3, s4, s5, s6]
      refine r1 5 (fun K hK => ?_)
      go_simp; replace st := hide (st.out.fb #[.bool z0.s, sv z0.u, sv z0.t, .bool z1.s, sv z1.u, sv z1.t] rfl (by simp [maxLen])); generalize (V4.alloc (.cells #[.bool z0.s, sv z0.u, sv z0.t, .bool z1.s, sv z1.u, sv z1.t] 42)) = V5 at *; generalize V4.heap.size = gr at *; (try dsimp only); refine hK.out _ _ ?_ (fun hHeld => ?_); (focus ((try dsimp only); exact (PA.out.step st.out.1).all)); clear hK K
      try simp only [Act.put, s1, s2, s3, s4, s5, s6]
      refine r1 8 (fun K hK => ?_)
      go_simp; go_at_call 26; refine Calls.mono (st.out.comb2 HA.out IS.out OA.out.1) ?_; rintro e V6 ⟨r, rfl, ho, ht, hl⟩; replace st := hide ho; have TI := hide ht; have KL := hide hl; clear ho ht hl; (try dsimp only); refine hK.out _ _ ?_ (fun hHeld => ?_); (focus ((try dsimp only); exact (PA.out.step st.out.1).all)); clear hK K
      refine tp 9 hHeld ?_
      try simp only [Act.put, s1, s2, s3, s4, s5, s6]
      refine tp 10 hHeld ?_
      refine tp 11 hHeld ?_
      try simp only [Act.put, s1, s2, s3, s4, s5, s6]
      refine r1 13 (fun K hK => ?_)
      obtain ⟨⟨k0, k1, k2, k3, k4⟩, ⟨y0, y1, y2, y3, y4⟩, fin⟩ := st.out.put TI.out KL.out; have FN := hide fin; clear fin; go_simp; clear k0 k1 k2 k3 k4 y0 y1 y2 y3 y4; (try dsimp only); refine hK.out _ _ ?_ (fun hHeld => ?_); (focus ((try dsimp only); exact (PA.out.step FN.out.below).all)); clear hK K
      refine tp 14 hHeld ?_
      try simp only [Act.put, s1, s2, s3, s4, s5, s6]
      refine wpAnyH_done (by kernel_rfl) ?_ _; go_wp2_with fail; go_meet; exact FN.out
    ·go_simp; replace st := hide st.out.al; generalize (V1.alloc kblk) = V2 at *; generalize V1.heap.size = g9 at *; (try dsimp only); refine hK.out _ _ ?_ (fun hHeld => ?_); (focus ((try dsimp only); exact (PA.out.step st.out.1).all)); clear hK K
     try simp only [Act.put, s1, s2, s3, s4, s5, s6]
     refine r1 3 (fun K hK => ?_)
     go_simp; go_at_call 47; refine Calls.mono (whole11_g _ 1 (by omega) (by omega)) ?_; rintro e V3 ⟨z0, rfl, hz, rz, bx⟩; replace st := hide (st.out.wh (zs' := [z0]) bx rz.1.ra hz rfl); clear hz rz bx; (try dsimp only); refine hK.out _ _ ?_ (fun hHeld => ?_); (focus ((try dsimp only); exact (PA.out.step st.out.1).all)); clear hK K
     try simp only [Act.put, s1, s2, s3, s4, s5, s6]
     refine r1 4 (fun K hK => ?_)
     go_simp; go_at_call 47; refine Calls.mono (whole11_g _ 1 (by omega) (by omega)) ?_; rintro e V4 ⟨z1, rfl, hz, rz, bx⟩; replace st := hide (st.out.wh (zs' := [z0, z1]) bx rz.1.ra hz rfl); clear hz rz bx; (try dsimp only); refine hK.out _ _ ?_ (fun hHeld => ?_); (focus ((try dsimp only); exact (PA.out.step st.out.1).all)); clear hK K
     try simp only [Act.put, s1, s2, s3, s4, s5, s6]
     refine r1 5 (fun K hK => ?_)
     go_simp; replace st := hide (st.out.fb #[.bool z0.s, sv z0.u, sv z0.t, .bool z1.s, sv z1.u, sv z1.t] rfl (by simp [maxLen])); generalize (V4.alloc (.cells #[.bool z0.s, sv z0.u, sv z0.t, .bool z1.s, sv z1.u, sv z1.t] 42)) = V5 at *; generalize V4.heap.size = gr at *; (try dsimp only); refine hK.out _ _ ?_ (fun hHeld => ?_); (focus ((try dsimp only); exact (PA.out.step st.out.1).all)); clear hK K
     try simp only [Act.put, s1, s2, s3, s4, s5, s6]
     refine r1 8 (fun K hK => ?_)
     go_simp; go_at_call 26; refine Calls.mono (st.out.comb2 HA.out IS.out OA.out.1) ?_; rintro e V6 ⟨r, rfl, ho, ht, hl⟩; replace st := hide ho; have TI := hide ht; have KL := hide hl; clear ho ht hl; (try dsimp only); refine hK.out _ _ ?_ (fun hHeld => ?_); (focus ((try dsimp only); exact (PA.out.step st.out.1).all)); clear hK K
     refine tp 9 hHeld ?_
     try simp only [Act.put, s1, s2, s3, s4, s5, s6]
     refine tp 10 hHeld ?_
     refine tp 11 hHeld ?_
     try simp only [Act.put, s1, s2, s3, s4, s5, s6]
     refine r1 13 (fun K hK => ?_)
     obtain ⟨⟨k0, k1, k2, k3, k4⟩, ⟨y0, y1, y2, y3, y4⟩, fin⟩ := st.out.put TI.out KL.out; have FN := hide fin; clear fin; go_simp; clear k0 k1 k2 k3 k4 y0 y1 y2 y3 y4; (try dsimp only); refine hK.out _ _ ?_ (fun hHeld => ?_); (focus ((try dsimp only); exact (PA.out.step FN.out.below).all)); clear hK K
     refine tp 14 hHeld ?_
     try simp only [Act.put, s1, s2, s3, s4, s5, s6]
     refine wpAnyH_done (by kernel_rfl) ?_ _; go_wp2_with fail; go_meet; exact FN.out
   ·go_simp; go_at_call 47; refine Calls.mono (whole11_g _ 1 (by omega) (by omega)) ?_; rintro e V1 ⟨z0, rfl, hz, rz, bx⟩; replace st := hide (st.out.wh (zs' := [z0]) bx rz.1.ra hz rfl); clear hz rz bx; (try dsimp only); refine hK.out _ _ ?_ (fun hHeld => ?_); (focus ((try dsimp only); exact (PA.out.step st.out.1).all)); clear hK K
    try simp only [Act.put, s1, s2, s3, s4, s5, s6]
    refine r3 2 4 12 (fun K hK => ?_) (fun K hK => ?_) (fun K hK => ?_)
    ·go_simp; replace st := hide (st.out.lb #[.int .i64 a.s, sv a.v, .bool a.x.s, sv a.x.u, sv a.x.t, .int .i64 a.s, sv a.v, .bool a.x.s, sv a.x.u, sv a.x.t] rfl (by simp [maxLen])); generalize (V1.alloc (.cells #[.int .i64 a.s, sv a.v, .bool a.x.s, sv a.x.u, sv a.x.t, .int .i64 a.s, sv a.v, .bool a.x.s, sv a.x.u, sv a.x.t] 54)) = V2 at *; generalize V1.heap.size = gk at *; (try dsimp only); refine hK.out _ _ ?_ (fun hHeld => ?_); (focus ((try dsimp only); exact (PA.out.step st.out.1).all)); clear hK K
     try simp only [Act.put, s1, s2, s3, s4, s5, s6]
     refine r2 4 12 (fun K hK => ?_) (fun K hK => ?_)
     ·go_simp; go_at_call 47; refine Calls.mono (whole11_g _ 1 (by omega) (by omega)) ?_; rintro e V3 ⟨z1, rfl, hz, rz, bx⟩; replace st := hide (st.out.wh (zs' := [z0, z1]) bx rz.1.ra hz rfl); clear hz rz bx; (try dsimp only); refine hK.out _ _ ?_ (fun hHeld => ?_); (focus ((try dsimp only); exact (PA.out.step st.out.1).all)); clear hK K
      try simp only [Act.put, s1, s2, s3, s4, s5, s6]
      refine r2 5 12 (fun K hK => ?_) (fun K hK => ?_)
      ·go_simp; replace st := hide (st.out.fb #[.bool z0.s, sv z0.u, sv z0.t, .bool z1.s, sv z1.u, sv z1.t] rfl (by simp [maxLen])); generalize (V3.alloc (.cells #[.bool z0.s, sv z0.u, sv z0.t, .bool z1.s, sv z1.u, sv z1.t] 42)) = V4 at *; generalize V3.heap.size = gr at *; (try dsimp only); refine hK.out _ _ ?_ (fun hHeld => ?_); (focus ((try dsimp only); exact (PA.out.step st.out.1).all)); clear hK K
       try simp only [Act.put, s1, s2, s3, s4, s5, s6]
       refine r2 8 12 (fun K hK => ?_) (fun K hK => ?_)
       ·go_simp; go_at_call 26; refine Calls.mono (st.out.comb2 HA.out IS.out OA.out.1) ?_; rintro e V5 ⟨r, rfl, ho, ht, hl⟩; replace st := hide ho; have TI := hide ht; have KL := hide hl; clear ho ht hl; (try dsimp only); refine hK.out _ _ ?_ (fun hHeld => ?_); (focus ((try dsimp only); exact (PA.out.step st.out.1).all)); clear hK K
        refine tp 9 hHeld ?_
        try simp only [Act.put, s1, s2, s3, s4, s5, s6]
        refine tp 10 hHeld ?_
        refine tp 11 hHeld ?_
        try simp only [Act.put, s1, s2, s3, s4, s5, s6]
        refine r1 12 (fun K hK => ?_)
        go_simp; replace st := hide st.out.al; generalize (V5.alloc kblk) = V6 at *; generalize V5.heap.size = g9 at *; (try dsimp only); refine hK.out _ _ ?_ (fun hHeld => ?_); (focus ((try dsimp only); exact (PA.out.step st.out.1).all)); clear hK K
        try simp only [Act.put, s1, s2, s3, s4, s5, s6]
        refine r1 13 (fun K hK => ?_)
        obtain ⟨⟨k0, k1, k2, k3, k4⟩, ⟨y0, y1, y2, y3, y4⟩, fin⟩ := st.out.put TI.out KL.out; have FN := hide fin; clear fin; go_simp; clear k0 k1 k2 k3 k4 y0 y1 y2 y3 y4; (try dsimp only); refine hK.out _ _ ?_ (fun hHeld => ?_); (focus ((try dsimp only); exact (PA.out.step FN.out.below).all)); clear hK K
        refine tp 14 hHeld ?_
        try simp only [Act.put, s1, s2, s3, s4, s5, s6]
        refine wpAnyH_done (by kernel_rfl) ?_ _; go_wp2_with fail; go_meet; exact FN.out
       ·go_simp; replace st := hide st.out.al; generalize (V4.alloc kblk) = V5 at *; generalize V4.heap.size = g9 at *; (try dsimp only); refine hK.out _ _ ?_ (fun hHeld => ?_); (focus ((try dsimp only); exact (PA.out.step st.out.1).all)); clear hK K
        try simp only [Act.put, s1, s2, s3, s4, s5, s6]
        refine r1 8 (fun K hK => ?_)
        go_simp; go_at_call 26; refine Calls.mono (st.out.comb2 HA.out IS.out OA.out.1) ?_; rintro e V6 ⟨r, rfl, ho, ht, hl⟩; replace st := hide ho; have TI := hide ht; have KL := hide hl; clear ho ht hl; (try dsimp only); refine hK.out _ _ ?_ (fun hHeld => ?_); (focus ((try dsimp only); exact (PA.out.step st.out.1).all)); clear hK K
        refine tp 9 hHeld ?_
        try simp only [Act.put, s1, s2, s3, s4, s5, s6]
        refine tp 10 hHeld ?_
        refine tp 11 hHeld ?_
        try simp only [Act.put, s1, s2, s3, s4, s5, s6]
        refine r1 13 (fun K hK => ?_)
        obtain ⟨⟨k0, k1, k2, k3, k4⟩, ⟨y0, y1, y2, y3, y4⟩, fin⟩ := st.out.put TI.out KL.out; have FN := hide fin; clear fin; go_simp; clear k0 k1 k2 k3 k4 y0 y1 y2 y3 y4; (try dsimp only); refine hK.out _ _ ?_ (fun hHeld => ?_); (focus ((try dsimp only); exact (PA.out.step FN.out.below).all)); clear hK K
        refine tp 14 hHeld ?_
        try simp only [Act.put, s1, s2, s3, s4, s5, s6]
        refine wpAnyH_done (by kernel_rfl) ?_ _; go_wp2_with fail; go_meet; exact FN.out
      ·go_simp; replace st := hide st.out.al; generalize (V3.alloc kblk) = V4 at *; generalize V3.heap.size = g9 at *; (try dsimp only); refine hK.out _ _ ?_ (fun hHeld => ?_); (focus ((try dsimp only); exact (PA.out.step st.out.1).all)); clear hK K
       try simp only [Act.put, s1, s2, s3, s4, s5, s6]
       refine r1 5 (fun K hK => ?_)
       go_simp; replace st := hide (st.out.fb #[.bool z0.s, sv z0.u, sv z0.t, .bool z1.s, sv z1.u, sv z1.t] rfl (by simp [maxLen])); generalize (V4.alloc (.cells #[.bool z0.s, sv z0.u, sv z0.t, .bool z1.s, sv z1.u, sv z1.t] 42)) = V5 at *; generalize V4.heap.size = gr at *; (try dsimp only); refine hK.out _ _ ?_ (fun hHeld => ?_); (focus ((try dsimp only); exact (PA.out.step st.out.1).all)); clear hK K
       try simp only [Act.put, s1, s2, s3, s4, s5, s6]
       refine r1 8 (fun K hK => ?_)
       go_simp; go_at_call 26; refine Calls.mono (st.out.comb2 HA.out IS.out OA.out.1) ?_; rintro e V6 ⟨r, rfl, ho, ht, hl⟩; replace st := hide ho; have TI := hide ht; have KL := hide hl; clear ho ht hl; (try dsimp only); refine hK.out _ _ ?_ (fun hHeld => ?_); (focus ((try dsimp only); exact (PA.out.step st.out.1).all)); clear hK K
       refine tp 9 hHeld ?_
       try simp only [Act.put, s1, s2, s3, s4, s5, s6]
       refine tp 10 hHeld ?_
       refine tp 11 hHeld ?_
       try simp only [Act.put, s1, s2, s3, s4, s5, s6]
       refine r1 13 (fun K hK => ?_)
       obtain ⟨⟨k0, k1, k2, k3, k4⟩, ⟨y0, y1, y2, y3, y4⟩, fin⟩ := st.out.put TI.out KL.out; have FN := hide fin; clear fin; go_simp; clear k0 k1 k2 k3 k4 y0 y1 y2 y3 y4; (try dsimp only); refine hK.out _ _ ?_ (fun hHeld => ?_); (focus ((try dsimp only); exact (PA.out.step FN.out.below).all)); clear hK K
       refine tp 14 hHeld ?_
       try simp only [Act.put, s1, s2, s3, s4, s5, s6]
       refine wpAnyH_done (by kernel_rfl) ?_ _; go_wp2_with fail; go_meet; exact FN.out
     ·go_simp; replace st := hide st.out.al; generalize (V2.alloc kblk) = V3 at *; generalize V2.heap.size = g9 at *; (try dsimp only); refine hK.out _ _ ?_ (fun hHeld => ?_); (focus ((try dsimp only); exact (PA.out.step st.out.1).all)); clear hK K
      try simp only [Act.put, s1, s2, s3, s4, s5, s6]
      refine r1 4 (fun K hK => ?_)
      go_simp; go_at_call 47; refine Calls.mono (whole11_g _ 1 (by omega) (by omega)) ?_; rintro e V4 ⟨z1, rfl, hz, rz, bx⟩; replace st := hide (st.out.wh (zs' := [z0, z1]) bx rz.1.ra hz rfl); clear hz rz bx; (try dsimp only); refine hK.out _ _ ?_ (fun hHeld => ?_); (focus ((try dsimp only); exact (PA.out.step st.out.1).all)); clear hK K
      try simp only [Act.put, s1, s2, s3, s4, s5, s6]
      refine r1 5 (fun K hK => ?_)
      go_simp; replace st := hide (st.out.fb #[.bool z0.s, sv z0.u, sv z0.t, .bool z1.s, sv z1.u, sv z1.t] rfl (by simp [maxLen])); generalize (V4.alloc (.cells #[.bool z0.s, sv z0.u, sv z0.t, .bool z1.s, sv z1.u, sv z1.t] 42)) = V5 at *; generalize V4.heap.size = gr at *; (try dsimp only); refine hK.out _ _ ?_ (fun hHeld => ?_); (focus ((try dsimp only); exact (PA.out.step st.out.1).all)); clear hK K
      try simp only [Act.put, s1, s2, s3, s4, s5, s6]
      refine r1 8 (fun K hK => ?_)
      go_simp; go_at_call 26; refine Calls.mono (st.out.comb2 HA.out IS.out OA.out.1) ?_; rintro e V6 ⟨r, rfl, ho, ht, hl⟩; replace st := hide ho; have TI := hide ht; have KL := hide hl; clear ho ht hl; (try dsimp only); refine hK.out _ _ ?_ (fun hHeld => ?_); (focus ((try dsimp only); exact (PA.out.step st.out.1).all)); clear hK K
      refine tp 9 hHeld ?_
      try simp only [Act.put, s1, s2, s3, s4, s5, s6]
      refine tp 10 hHeld ?_
      refine tp 11 hHeld ?_
      try simp only [Act.put, s1, s2, s3, s4, s5, s6]
      refine r1 13 (fun K hK => ?_)
      obtain ⟨⟨k0, k1, k2, k3, k4⟩, ⟨y0, y1, y2, y3, y4⟩, fin⟩ := st.out.put TI.out KL.out; have FN := hide fin; clear fin; go_simp; clear k0 k1 k2 k3 k4 y0 y1 y2 y3 y4; (try dsimp only); refine hK.out _ _ ?_ (fun hHeld => ?_); (focus ((try dsimp only); exact (PA.out.step FN.out.below).all)); clear hK K
      refine tp 14 hHeld ?_
      try simp only [Act.put, s1, s2, s3, s4, s5, s6]
      refine wpAnyH_done (by kernel_rfl) ?_ _; go_wp2_with fail; go_meet; exact FN.out
    ·go_simp; go_at_call 47; refine Calls.mono (whole11_g _ 1 (by omega) (by omega)) ?_; rintro e V2 ⟨z1, rfl, hz, rz, bx⟩; replace st := hide (st.out.wh (zs' := [z0, z1]) bx rz.1.ra hz rfl); clear hz rz bx; (try dsimp only); refine hK.out _ _ ?_ (fun hHeld => ?_); (focus ((try dsimp only); exact (PA.out.step st.out.1).all)); clear hK K
     try simp only [Act.put, s1, s2, s3, s4, s5, s6]
     refine r3 2 5 12 (fun K hK => ?_) (fun K hK => ?_) (fun K hK => ?_)
     ·go_simp; replace st := hide (st.out.lb #[.int .i64 a.s, sv a.v, .bool a.x.s, sv a.x.u, sv a.x.t, .int .i64 a.s, sv a.v, .bool a.x.s, sv a.x.u, sv a.x.t] rfl (by simp [maxLen])); generalize (V2.alloc (.cells #[.int .i64 a.s, sv a.v, .bool a.x.s, sv a.x.u, sv a.x.t, .int .i64 a.s, sv a.v, .bool a.x.s, sv a.x.u, sv a.x.t] 54)) = V3 at *; generalize V2.heap.size = gk at *; (try dsimp only); refine hK.out _ _ ?_ (fun hHeld => ?_); (focus ((try dsimp only); exact (PA.out.step st.out.1).all)); clear hK K
      try simp only [Act.put, s1, s2, s3, s4, s5, s6]
      refine r2 5 12 (fun K hK => ?_) (fun K hK => ?_)
      ·go_simp; replace st := hide (st.out.fb #[.bool z0.s, sv z0.u, sv z0.t, .bool z1.s, sv z1.u, sv z1.t] rfl (by simp [maxLen])); generalize (V3.alloc (.cells #[.bool z0.s, sv z0.u, sv z0.t, .bool z1.s, sv z1.u, sv z1.t] 42)) = V4 at *; generalize V3.heap.size = gr at *; (try dsimp only); refine hK.out _ _ ?_ (fun hHeld => ?_); (focus ((try dsimp only); exact (PA.out.step st.out.1).all)); clear hK K
       try simp only [Act.put, s1, s2, s3, s4, s5, s6]
       refine r2 8 12 (fun K hK => ?_) (fun K hK => ?_)
       ·go_simp; go_at_call 26; refine Calls.mono (st.out.comb2 HA.out IS.out OA.out.1) ?_; rintro e V5 ⟨r, rfl, ho, ht, hl⟩; replace st := hide ho; have TI := hide ht; have KL := hide hl; clear ho ht hl; (try dsimp only); refine hK.out _ _ ?_ (fun hHeld => ?_); (focus ((try dsimp only); exact (PA.out.step st.out.1).all)); clear hK K
        refine tp 9 hHeld ?_
        try simp only [Act.put, s1, s2, s3, s4, s5, s6]
        refine tp 10 hHeld ?_
        refine tp 11 hHeld ?_
        try simp only [Act.put, s1, s2, s3, s4, s5, s6]
        refine r1 12 (fun K hK => ?_)
        go_simp; replace st := hide st.out.al; generalize (V5.alloc kblk) = V6 at *; generalize V5.heap.size = g9 at *; (try dsimp only); refine hK.out _ _ ?_ (fun hHeld => ?_); (focus ((try dsimp only); exact (PA.out.step st.out.1).all)); clear hK K
        try simp only [Act.put, s1, s2, s3, s4, s5, s6]
        refine r1 13 (fun K hK => ?_)
        obtain ⟨⟨k0, k1, k2, k3, k4⟩, ⟨y0, y1, y2, y3, y4⟩, fin⟩ := st.out.put TI.out KL.out; have FN := hide fin; clear fin; go_simp; clear k0 k1 k2 k3 k4 y0 y1 y2 y3 y4; (try dsimp only); refine hK.out _ _ ?_ (fun hHeld => ?_); (focus ((try dsimp only); exact (PA.out.step FN.out.below).all)); clear hK K
        refine tp 14 hHeld ?_
        try simp only [Act.put, s1, s2, s3, s4, s5, s6]
        refine wpAnyH_done (by kernel_rfl) ?_ _; go_wp2_with fail; go_meet; exact FN.out
       ·go_simp; replace st := hide st.out.al; generalize (V4.alloc kblk) = V5 at *; generalize V4.heap.size = g9 at *; (try dsimp only); refine hK.out _ _ ?_ (fun hHeld => ?_); (focus ((try dsimp only); exact (PA.out.step st.out.1).all)); clear hK K
        try simp only [Act.put, s1, s2, s3, s4, s5, s6]
        refine r1 8 (fun K hK => ?_)
        go_simp; go_at_call 26; refine Calls.mono (st.out.comb2 HA.out IS.out OA.out.1) ?_; rintro e V6 ⟨r, rfl, ho, ht, hl⟩; replace st := hide ho; have TI := hide ht; have KL := hide hl; clear ho ht hl; (try dsimp only); refine hK.out _ _ ?_ (fun hHeld => ?_); (focus ((try dsimp only); exact (PA.out.step st.out.1).all)); clear hK K
        refine tp 9 hHeld ?_
        try simp only [Act.put, s1, s2, s3, s4, s5, s6]
        refine tp 10 hHeld ?_
        refine tp 11 hHeld ?_
        try simp only [Act.put, s1, s2, s3, s4, s5, s6]
        refine r1 13 (fun K hK => ?_)
        obtain ⟨⟨k0, k1, k2, k3, k4⟩, ⟨y0, y1, y2, y3, y4⟩, fin⟩ := st.out.put TI.out KL.out; have FN := hide fin; clear fin; go_simp; clear k0 k1 k2 k3 k4 y0 y1 y2 y3 y4; (try dsimp only); refine hK.out _ _ ?_ (fun hHeld => ?_); (focus ((try dsimp only); exact (PA.out.step FN.out.below).all)); clear hK K
        refine tp 14 hHeld ?_
        try simp only [Act.put, s1, s2, s3, s4, s5, s6]
        refine wpAnyH_done (by kernel_rfl) ?_ _; go_wp2_with fail; go_meet; exact FN.out
      ·go_simp; replace st := hide st.out.al; generalize (V3.alloc kblk) = V4 at *; generalize V3.heap.size = g9 at *; (try dsimp only); refine hK.out _ _ ?_ (fun hHeld => ?_); (focus ((try dsimp only); exact (PA.out.step st.out.1).all)); clear hK K
       try simp only [Act.put, s1, s2, s3, s4, s5, s6]
       refine r1 5 (fun K hK => ?_)
       go_simp; replace st := hide (st.out.fb #[.bool z0.s, sv z0.u, sv z0.t, .bool z1.s, sv z1.u, sv z1.t] rfl (by simp [maxLen])); generalize (V4.alloc (.cells #[.bool z0.s, sv z0.u, sv z0.t, .bool z1.s, sv z1.u, sv z1.t] 42)) = V5 at *; generalize V4.heap.size = gr at *; (try dsimp only); refine hK.out _ _ ?_ (fun hHeld => ?_); (focus ((try dsimp only); exact (PA.out.step st.out.1).all)); clear hK K
       try simp only [Act.put, s1, s2, s3, s4, s5, s6]
       refine r1 8 (fun K hK => ?_)
       go_simp; go_at_call 26; refine Calls.mono (st.out.comb2 HA.out IS.out OA.out.1) ?_; rintro e V6 ⟨r, rfl, ho, ht, hl⟩; replace st := hide ho; have TI := hide ht; have KL := hide hl; clear ho ht hl; (try dsimp only); refine hK.out _ _ ?_ (fun hHeld => ?_); (focus ((try dsimp only); exact (PA.out.step st.out.1).all)); clear hK K
       refine tp 9 hHeld ?_
       try simp only [Act.put, s1, s2, s3, s4, s5, s6]
       refine tp 10 hHeld ?_
       refine tp 11 hHeld ?_
       try simp only [Act.put, s1, s2, s3, s4, s5, s6]
       refine r1 13 (fun K hK => ?_)
       obtain ⟨⟨k0, k1, k2, k3, k4⟩, ⟨y0, y1, y2, y3, y4⟩, fin⟩ := st.out.put TI.out KL.out; have FN := hide fin; clear fin; go_simp; clear k0 k1 k2 k3 k4 y0 y1 y2 y3 y4; (try dsimp only); refine hK.out _ _ ?_ (fun hHeld => ?_); (focus ((try dsimp only); exact (PA.out.step FN.out.below).all)); clear hK K
       refine tp 14 hHeld ?_
       try simp only [Act.put, s1, s2, s3, s4, s5, s6]
       refine wpAnyH_done (by kernel_rfl) ?_ _; go_wp2_with fail; go_meet; exact FN.out
     ·go_simp; replace st := hide (st.out.fb #[.bool z0.s, sv z0.u, sv z0.t, .bool z1.s, sv z1.u, sv z1.t] rfl (by simp [maxLen])); generalize (V2.alloc (.cells #[.bool z0.s, sv z0.u, sv z0.t, .bool z1.s, sv z1.u, sv z1.t] 42)) = V3 at *; generalize V2.heap.size = gr at *; (try dsimp only); refine hK.out _ _ ?_ (fun hHeld => ?_); (focus ((try dsimp only); exact (PA.out.step st.out.1).all)); clear hK K
      try simp only [Act.put, s1, s2, s3, s4, s5, s6]
      refine r2 2 12 (fun K hK => ?_) (fun K hK => ?_)
      ·go_simp; replace st := hide (st.out.lb #[.int .i64 a.s, sv a.v, .bool a.x.s, sv a.x.u, sv a.x.t, .int .i64 a.s, sv a.v, .bool a.x.s, sv a.x.u, sv a.x.t] rfl (by simp [maxLen])); generalize (V3.alloc (.cells #[.int .i64 a.s, sv a.v, .bool a.x.s, sv a.x.u, sv a.x.t, .int .i64 a.s, sv a.v, .bool a.x.s, sv a.x.u, sv a.x.t] 54)) = V4 at *; generalize V3.heap.size = gk at *; (try dsimp only); refine hK.out _ _ ?_ (fun hHeld => ?_); (focus ((try dsimp only); exact (PA.out.step st.out.1).all)); clear hK K
       try simp only [Act.put, s1, s2, s3, s4, s5, s6]
       refine r2 8 12 (fun K hK => ?_) (fun K hK => ?_)
       ·go_simp; go_at_call 26; refine Calls.mono (st.out.comb2 HA.out IS.out OA.out.1) ?_; rintro e V5 ⟨r, rfl, ho, ht, hl⟩; replace st := hide ho; have TI := hide ht; have KL := hide hl; clear ho ht hl; (try dsimp only); refine hK.out _ _ ?_ (fun hHeld => ?_); (focus ((try dsimp only); exact (PA.out.step st.out.1).all)); clear hK K
        refine tp 9 hHeld ?_
        try simp only [Act.put, s1, s2, s3, s4, s5, s6]
        refine tp 10 hHeld ?_
        refine tp 11 hHeld ?_
        try simp only [Act.put, s1, s2, s3, s4, s5, s6]
        refine r1 12 (fun K hK => ?_)
        go_simp; replace st := hide st.out.al; generalize (V5.alloc kblk) = V6 at *; generalize V5.heap.size = g9 at *; (try dsimp only); refine hK.out _ _ ?_ (fun hHeld => ?_); (focus ((try dsimp only); exact (PA.out.step st.out.1).all)); clear hK K
        try simp only [Act.put, s1, s2, s3, s4, s5, s6]
        refine r1 13 (fun K hK => ?_)
        obtain ⟨⟨k0, k1, k2, k3, k4⟩, ⟨y0, y1, y2, y3, y4⟩, fin⟩ := st.out.put TI.out KL.out; have FN := hide fin; clear fin; go_simp; clear k0 k1 k2 k3 k4 y0 y1 y2 y3 y4; (try dsimp only); refine hK.out _ _ ?_ (fun hHeld => ?_); (focus ((try dsimp only); exact (PA.out.step FN.out.below).all)); clear hK K
        refine tp 14 hHeld ?_
        try simp only [Act.put, s1, s2, s3, s4, s5, s6]
        refine wpAnyH_done (by kernel_rfl) ?_ _; go_wp2_with fail; go_meet; exact FN.out
       ·go_simp; replace st := hide st.out.al; generalize (V4.alloc kblk) = V5 at *; generalize V4.heap.size = g9 at *; (try dsimp only); refine hK.out _ _ ?_ (fun hHeld => ?_); (focus ((try dsimp only); exact (PA.out.step st.out.1).all)); clear hK K
        try simp only [Act.put, s1, s2, s3, s4, s5, s6]
        refine r1 8 (fun K hK => ?_)
        go_simp; go_at_call 26; refine Calls.mono (st.out.comb2 HA.out IS.out OA.out.1) ?_; rintro e V6 ⟨r, rfl, ho, ht, hl⟩; replace st := hide ho; have TI := hide ht; have KL := hide hl; clear ho ht hl; (try dsimp only); refine hK.out _ _ ?_ (fun hHeld => ?_); (focus ((try dsimp only); exact (PA.out.step st.out.1).all)); clear hK K
        refine tp 9 hHeld ?_
        try simp only [Act.put, s1, s2, s3, s4, s5, s6]
        refine tp 10 hHeld ?_
        refine tp 11 hHeld ?_
        try simp only [Act.put, s1, s2, s3, s4, s5, s6]
        refine r1 13 (fun K hK => ?_)
        obtain ⟨⟨k0, k1, k2, k3, k4⟩, ⟨y0, y1, y2, y3, y4⟩, fin⟩ := st.out.put TI.out KL.out; have FN := hide fin; clear fin; go_simp; clear k0 k1 k2 k3 k4 y0 y1 y2 y3 y4; (try dsimp only); refine hK.out _ _ ?_ (fun hHeld => ?_); (focus ((try dsimp only); exact (PA.out.step FN.out.below).all)); clear hK K
        refine tp 14 hHeld ?_
        try simp only [Act.put, s1, s2, s3, s4, s5, s6]
        refine wpAnyH_done (by kernel_rfl) ?_ _; go_wp2_with fail; go_meet; exact FN.out
      ·go_simp; replace st := hide st.out.al; generalize (V3.alloc kblk) = V4 at *; generalize V3.heap.size = g9 at *; (try dsimp only); refine hK.out _ _ ?_ (fun hHeld => ?_); (focus ((try dsimp only); exact (PA.out.step st.out.1).all)); clear hK K
       try simp only [Act.put, s1, s2, s3, s4, s5, s6]
       refine r1 2 (fun K hK => ?_)
       go_simp; replace st := hide (st.out.lb #[.int .i64 a.s, sv a.v, .bool a.x.s, sv a.x.u, sv a.x.t, .int .i64 a.s, sv a.v, .bool a.x.s, sv a.x.u, sv a.x.t] rfl (by simp [maxLen])); generalize (V4.alloc (.cells #[.int .i64 a.s, sv a.v, .bool a.x.s, sv a.x.u, sv a.x.t, .int .i64 a.s, sv a.v, .bool a.x.s, sv a.x.u, sv a.x.t] 54)) = V5 at *; generalize V4.heap.size = gk at *; (try dsimp only); refine hK.out _ _ ?_ (fun hHeld => ?_); (focus ((try dsimp only); exact (PA.out.step st.out.1).all)); clear hK K
       try simp only [Act.put, s1, s2, s3, s4, s5, s6]
       refine r1 8 (fun K hK => ?_)
       go_simp; go_at_call 26; refine Calls.mono (st.out.comb2 HA.out IS.out OA.out.1) ?_; rintro e V6 ⟨r, rfl, ho, ht, hl⟩; replace st := hide ho; have TI := hide ht; have KL := hide hl; clear ho ht hl; (try dsimp only); refine hK.out _ _ ?_ (fun hHeld => ?_); (focus ((try dsimp only); exact (PA.out.step st.out.1).all)); clear hK K
       refine tp 9 hHeld ?_
       try simp only [Act.put, s1, s2, s3, s4, s5, s6]
       refine tp 10 hHeld ?_
       refine tp 11 hHeld ?_
       try simp only [Act.put, s1, s2, s3, s4, s5, s6]
       refine r1 13 (fun K hK => ?_)
       obtain ⟨⟨k0, k1, k2, k3, k4⟩, ⟨y0, y1, y2, y3, y4⟩, fin⟩ := st.out.put TI.out KL.out; have FN := hide fin; clear fin; go_simp; clear k0 k1 k2 k3 k4 y0 y1 y2 y3 y4; (try dsimp only); refine hK.out _ _ ?_ (fun hHeld => ?_); (focus ((try dsimp only); exact (PA.out.step FN.out.below).all)); clear hK K
       refine tp 14 hHeld ?_
       try simp only [Act.put, s1, s2, s3, s4, s5, s6]
       refine wpAnyH_done (by kernel_rfl) ?_ _; go_wp2_with fail; go_meet; exact FN.out
     ·go_simp; replace st := hide st.out.al; generalize (V2.alloc kblk) = V3 at *; generalize V2.heap.size = g9 at *; (try dsimp only); refine hK.out _ _ ?_ (fun hHeld => ?_); (focus ((try dsimp only); exact (PA.out.step st.out.1).all)); clear hK K
      try simp only [Act.put, s1, s2, s3, s4, s5, s6]
      refine r2 2 5 (fun K hK => ?_) (fun K hK => ?_)
      ·go_simp; replace st := hide (st.out.lb #[.int .i64 a.s, sv a.v, .bool a.x.s, sv a.x.u, sv a.x.t, .int .i64 a.s, sv a.v, .bool a.x.s, sv a.x.u, sv a.x.t] rfl (by simp [maxLen])); generalize (V3.alloc (.cells #[.int .i64 a.s, sv a.v, .bool a.x.s, sv a.x.u, sv a.x.t, .int .i64 a.s, sv a.v, .bool a.x.s, sv a.x.u, sv a.x.t] 54)) = V4 at *; generalize V3.heap.size = gk at *; (try dsimp only); refine hK.out _ _ ?_ (fun hHeld => ?_); (focus ((try dsimp only); exact (PA.out.step st.out.1).all)); clear hK K
       try simp only [Act.put, s1, s2, s3, s4, s5, s6]
       refine r1 5 (fun K hK => ?_)
       go_simp; replace st := hide (st.out.fb #[.bool z0.s, sv z0.u, sv z0.t, .bool z1.s, sv z1.u, sv z1.t] rfl (by simp [maxLen])); generalize (V4.alloc (.cells #[.bool z0.s, sv z0.u, sv z0.t, .bool z1.s, sv z1.u, sv z1.t] 42)) = V5 at *; generalize V4.heap.size = gr at *; (try dsimp only); refine hK.out _ _ ?_ (fun hHeld => ?_); (focus ((try dsimp only); exact (PA.out.step st.out.1).all)); clear hK K
       try simp only [Act.put, s1, s2, s3, s4, s5, s6]
       refine r1 8 (fun K hK => ?_)
       go_simp; go_at_call 26; refine Calls.mono (st.out.comb2 HA.out IS.out OA.out.1) ?_; rintro e V6 ⟨r, rfl, ho, ht, hl⟩; replace st := hide ho; have TI := hide ht; have KL := hide hl; clear ho ht hl; (try dsimp only); refine hK.out _ _ ?_ (fun hHeld => ?_); (focus ((try dsimp only); exact (PA.out.step st.out.1).all)); clear hK K
       refine tp 9 hHeld ?_
       try simp only [Act.put, s1, s2, s3, s4, s5, s6]
       refine tp 10 hHeld ?_
       refine tp 11 hHeld ?_
       try simp only [Act.put, s1, s2, s3, s4, s5, s6]
       refine r1 13 (fun K hK => ?_)
       obtain ⟨⟨k0, k1, k2, k3, k4⟩, ⟨y0, y1, y2, y3, y4⟩, fin⟩ := st.out.put TI.out KL.out; have FN := hide fin; clear fin; go_simp; clear k0 k1 k2 k3 k4 y0 y1 y2 y3 y4; (try dsimp only); refine hK.out _ _ ?_ (fun hHeld => ?_); (focus ((try dsimp only); exact (PA.out.step FN.out.below).all)); clear hK K
       refine tp 14 hHeld ?_
       try simp only [Act.put, s1, s2, s3, s4, s5, s6]
       refine wpAnyH_done (by kernel_rfl) ?_ _; go_wp2_with fail; go_meet; exact FN.out
      ·go_simp; replace st := hide (st.out.fb #[.bool z0.s, sv z0.u, sv z0.t, .bool z1.s, sv z1.u, sv z1.t] rfl (by simp [maxLen])); generalize (V3.alloc (.cells #[.bool z0.s, sv z0.u, sv z0.t, .bool z1.s, sv z1.u, sv z1.t] 42)) = V4 at *; generalize V3.heap.size = gr at *; (try dsimp only); refine hK.out _ _ ?_ (fun hHeld => ?_); (focus ((try dsimp only); exact (PA.out.step st.out.1).all)); clear hK K
       try simp only [Act.put, s1, s2, s3, s4, s5, s6]
       refine r1 2 (fun K hK => ?_)
       go_simp; replace st := hide (st.out.lb #[.int .i64 a.s, sv a.v, .bool a.x.s, sv a.x.u, sv a.x.t, .int .i64 a.s, sv a.v, .bool a.x.s, sv a.x.u, sv a.x.t] rfl (by simp [maxLen])); generalize (V4.alloc (.cells #[.int .i64 a.s, sv a.v, .bool a.x.s, sv a.x.u, sv a.x.t, .int .i64 a.s, sv a.v, .bool a.x.s, sv a.x.u, sv a.x.t] 54)) = V5 at *; generalize V4.heap.size = gk at *; (try dsimp only); refine hK.out _ _ ?_ (fun hHeld => ?_); (focus ((try dsimp only); exact (PA.out.step st.out.1).all)); clear hK K
       try simp only [Act.put, s1, s2, s3, s4, s5, s6]
       refine r1 8 (fun K hK => ?_)
       go_simp; go_at_call 26; refine Calls.mono (st.out.comb2 HA.out IS.out OA.out.1) ?_; rintro e V6 ⟨r, rfl, ho, ht, hl⟩; replace st := hide ho; have TI := hide ht; have KL := hide hl; clear ho ht hl; (try dsimp only); refine hK.out _ _ ?_ (fun hHeld => ?_); (focus ((try dsimp only); exact (PA.out.step st.out.1).all)); clear hK K
       refine tp 9 hHeld ?_
       try simp only [Act.put, s1, s2, s3, s4, s5, s6]
       refine tp 10 hHeld ?_
       refine tp 11 hHeld ?_
       try simp only [Act.put, s1, s2, s3, s4, s5, s6]
       refine r1 13 (fun K hK => ?_)
       obtain ⟨⟨k0, k1, k2, k3, k4⟩, ⟨y0, y1, y2, y3, y4⟩, fin⟩ := st.out.put TI.out KL.out; have FN := hide fin; clear fin; go_simp; clear k0 k1 k2 k3 k4 y0 y1 y2 y3 y4; (try dsimp only); refine hK.out _ _ ?_ (fun hHeld => ?_); (focus ((try dsimp only); exact (PA.out.step FN.out.below).all)); clear hK K
       refine tp 14 hHeld ?_
       try simp only [Act.put, s1, s2, s3, s4, s5, s6]
       refine wpAnyH_done (by kernel_rfl) ?_ _; go_wp2_with fail; go_meet; exact FN.out
    ·go_simp; replace st := hide st.out.al; generalize (V1.alloc kblk) = V2 at *; generalize V1.heap.size = g9 at *; (try dsimp only); refine hK.out _ _ ?_ (fun hHeld => ?_); (focus ((try dsimp only); exact (PA.out.step st.out.1).all)); clear hK K
     try simp only [Act.put, s1, s2, s3, s4, s5, s6]
     refine r2 2 4 (fun K hK => ?_) (fun K hK => ?_)
     ·go_simp; replace st := hide (st.out.lb #[.int .i64 a.s, sv a.v, .bool a.x.s, sv a.x.u, sv a.x.t, .int .i64 a.s, sv a.v, .bool a.x.s, sv a.x.u, sv a.x.t] rfl (by simp [maxLen])); generalize (V2.alloc (.cells #[.int .i64 a.s, sv a.v, .bool a.x.s, sv a.x.u, sv a.x.t, .int .i64 a.s, sv a.v, .bool a.x.s, sv a.x.u, sv a.x.t] 54)) = V3 at *; generalize V2.heap.size = gk at *; (try dsimp only); refine hK.out _ _ ?_ (fun hHeld => ?_); (focus ((try dsimp only); exact (PA.out.step st.out.1).all)); clear hK K
      try simp only [Act.put, s1, s2, s3, s4, s5, s6]
      refine r1 4 (fun K hK => ?_)
      go_simp; go_at_call 47; refine Calls.mono (whole11_g _ 1 (by omega) (by omega)) ?_; rintro e V4 ⟨z1, rfl, hz, rz, bx⟩; replace st := hide (st.out.wh (zs' := [z0, z1]) bx rz.1.ra hz rfl); clear hz rz bx; (try dsimp only); refine hK.out _ _ ?_ (fun hHeld => ?_); (focus ((try dsimp only); exact (PA.out.step st.out.1).all)); clear hK K
      try simp only [Act.put, s1, s2, s3, s4, s5, s6]
      refine r1 5 (fun K hK => ?_)
      go_simp; replace st := hide (st.out.fb #[.bool z0.s, sv z0.u, sv z0.t, .bool z1.s, sv z1.u, sv z1.t] rfl (by simp [maxLen])); generalize (V4.alloc (.cells #[.bool z0.s, sv z0.u, sv z0.t, .bool z1.s, sv z1.u, sv z1.t] 42)) = V5 at *; generalize V4.heap.size = gr at *; (try dsimp only); refine hK.out _ _ ?_ (fun hHeld => ?_); (focus ((try dsimp only); exact (PA.out.step st.out.1).all)); clear hK K
      try simp only [Act.put, s1, s2, s3, s4, s5, s6]
      refine r1 8 (fun K hK => ?_)
      go_simp; go_at_call 26; refine Calls.mono (st.out.comb2 HA.out IS.out OA.out.1) ?_; rintro e V6 ⟨r, rfl, ho, ht, hl⟩; replace st := hide ho; have TI := hide ht; have KL := hide hl; clear ho ht hl; (try dsimp only); refine hK.out _ _ ?_ (fun hHeld => ?_); (focus ((try dsimp only); exact (PA.out.step st.out.1).all)); clear hK K
      refine tp 9 hHeld ?_
      try simp only [Act.put, s1, s2, s3, s4, s5, s6]
      refine tp 10 hHeld ?_
      refine tp 11 hHeld ?_
      try simp only [Act.put, s1, s2, s3, s4, s5, s6]
      refine r1 13 (fun K hK => ?_)
      obtain ⟨⟨k0, k1, k2, k3, k4⟩, ⟨y0, y1, y2, y3, y4⟩, fin⟩ := st.out.put TI.out KL.out; have FN := hide fin; clear fin; go_simp; clear k0 k1 k2 k3 k4 y0 y1 y2 y3 y4; (try dsimp only); refine hK.out _ _ ?_ (fun hHeld => ?_); (focus ((try dsimp only); exact (PA.out.step FN.out.below).all)); clear hK K
      refine tp 14 hHeld ?_
      try simp only [Act.put, s1, s2, s3, s4, s5, s6]
      refine wpAnyH_done (by kernel_rfl) ?_ _; go_wp2_with fail; go_meet; exact FN.out
     ·go_simp; go_at_call 47; refine Calls.mono (whole11_g _ 1 (by omega) (by omega)) ?_; rintro e V3 ⟨z1, rfl, hz, rz, bx⟩; replace st := hide (st.out.wh (zs' := [z0, z1]) bx rz.1.ra hz rfl); clear hz rz bx; (try dsimp only); refine hK.out _ _ ?_ (fun hHeld => ?_); (focus ((try dsimp only); exact (PA.out.step st.out.1).all)); clear hK K
      try simp only [Act.put, s1, s2, s3, s4, s5, s6]
      refine r2 2 5 (fun K hK => ?_) (fun K hK => ?_)
      ·go_simp; replace st := hide (st.out.lb #[.int .i64 a.s, sv a.v, .bool a.x.s, sv a.x.u, sv a.x.t, .int .i64 a.s, sv a.v, .bool a.x.s, sv a.x.u, sv a.x.t] rfl (by simp [maxLen])); generalize (V3.alloc (.cells #[.int .i64 a.s, sv a.v, .bool a.x.s, sv a.x.u, sv a.x.t, .int .i64 a.s, sv a.v, .bool a.x.s, sv a.x.u, sv a.x.t] 54)) = V4 at *; generalize V3.heap.size = gk at *; (try dsimp only); refine hK.out _ _ ?_ (fun hHeld => ?_); (focus ((try dsimp only); exact (PA.out.step st.out.1).all)); clear hK K
       try simp only [Act.put, s1, s2, s3, s4, s5, s6]
       refine r1 5 (fun K hK => ?_)
       go_simp; replace st := hide (st.out.fb #[.bool z0.s, sv z0.u, sv z0.t, .bool z1.s, sv z1.u, sv z1.t] rfl (by simp [maxLen])); generalize (V4.alloc (.cells #[.bool z0.s, sv z0.u, sv z0.t, .bool z1.s, sv z1.u, sv z1.t] 42)) = V5 at *; generalize V4.heap.size = gr at *; (try dsimp only); refine hK.out _ _ ?_ (fun hHeld => ?_); (focus ((try dsimp only); exact (PA.out.step st.out.1).all)); clear hK K
       try simp only [Act.put, s1, s2, s3, s4, s5, s6]
       refine r1 8 (fun K hK => ?_)
       go_simp; go_at_call 26; refine Calls.mono (st.out.comb2 HA.out IS.out OA.out.1) ?_; rintro e V6 ⟨r, rfl, ho, ht, hl⟩; replace st := hide ho; have TI := hide ht; have KL := hide hl; clear ho ht hl; (try dsimp only); refine hK.out _ _ ?_ (fun hHeld => ?_); (focus ((try dsimp only); exact (PA.out.step st.out.1).all)); clear hK K
       refine tp 9 hHeld ?_
       try simp only [Act.put, s1, s2, s3, s4, s5, s6]
       refine tp 10 hHeld ?_
       refine tp 11 hHeld ?_
       try simp only [Act.put, s1, s2, s3, s4, s5, s6]
       refine r1 13 (fun K hK => ?_)
       obtain ⟨⟨k0, k1, k2, k3, k4⟩, ⟨y0, y1, y2, y3, y4⟩, fin⟩ := st.out.put TI.out KL.out; have FN := hide fin; clear fin; go_simp; clear k0 k1 k2 k3 k4 y0 y1 y2 y3 y4; (try dsimp only); refine hK.out _ _ ?_ (fun hHeld => ?_); (focus ((try dsimp only); exact (PA.out.step FN.out.below).all)); clear hK K
       refine tp 14 hHeld ?_
       try simp only [Act.put, s1, s2, s3, s4, s5, s6]
       refine wpAnyH_done (by kernel_rfl) ?_ _; go_wp2_with fail; go_meet; exact FN.out
      ·go_simp; replace st := hide (st.out.fb #[.bool z0.s, sv z0.u, sv z0.t, .bool z1.s, sv z1.u, sv z1.t] rfl (by simp [maxLen])); generalize (V3.alloc (.cells #[.bool z0.s, sv z0.u, sv z0.t, .bool z1.s, sv z1.u, sv z1.t] 42)) = V4 at *; generalize V3.heap.size = gr at *; (try dsimp only); refine hK.out _ _ ?_ (fun hHeld => ?_); (focus ((try dsimp only); exact (PA.out.step st.out.1).all)); clear hK K
       try simp only [Act.put, s1, s2, s3, s4, s5, s6]
       refine r1 2 (fun K hK => ?_)
       go_simp; replace st := hide (st.out.lb #[.int .i64 a.s, sv a.v, .bool a.x.s, sv a.x.u, sv a.x.t, .int .i64 a.s, sv a.v, .bool a.x.s, sv a.x.u, sv a.x.t] rfl (by simp [maxLen])); generalize (V4.alloc (.cells #[.int .i64 a.s, sv a.v, .bool a.x.s, sv a.x.u, sv a.x.t, .int .i64 a.s, sv a.v, .bool a.x.s, sv a.x.u, sv a.x.t] 54)) = V5 at *; generalize V4.heap.size = gk at *; (try dsimp only); refine hK.out _ _ ?_ (fun hHeld => ?_); (focus ((try dsimp only); exact (PA.out.step st.out.1).all)); clear hK K
       try simp only [Act.put, s1, s2, s3, s4, s5, s6]
       refine r1 8 (fun K hK => ?_)
       go_simp; go_at_call 26; refine Calls.mono (st.out.comb2 HA.out IS.out OA.out.1) ?_; rintro e V6 ⟨r, rfl, ho, ht, hl⟩; replace st := hide ho; have TI := hide ht; have KL := hide hl; clear ho ht hl; (try dsimp only); refine hK.out _ _ ?_ (fun hHeld => ?_); (focus ((try dsimp only); exact (PA.out.step st.out.1).all)); clear hK K
       refine tp 9 hHeld ?_
       try simp only [Act.put, s1, s2, s3, s4, s5, s6]
       refine tp 10 hHeld ?_
       refine tp 11 hHeld ?_
       try simp only [Act.put, s1, s2, s3, s4, s5, s6]
       refine r1 13 (fun K hK => ?_)
       obtain ⟨⟨k0, k1, k2, k3, k4⟩, ⟨y0, y1, y2, y3, y4⟩, fin⟩ := st.out.put TI.out KL.out; have FN := hide fin; clear fin; go_simp; clear k0 k1 k2 k3 k4 y0 y1 y2 y3 y4; (try dsimp only); refine hK.out _ _ ?_ (fun hHeld => ?_); (focus ((try dsimp only); exact (PA.out.step FN.out.below).all)); clear hK K
       refine tp 14 hHeld ?_
       try simp only [Act.put, s1, s2, s3, s4, s5, s6]
       refine wpAnyH_done (by kernel_rfl) ?_ _; go_wp2_with fail; go_meet; exact FN.out
   ·go_simp; replace st := hide st.out.al; generalize (V0.alloc kblk) = V1 at *; generalize V0.heap.size = g9 at *; (try dsimp only); refine hK.out _ _ ?_ (fun hHeld => ?_); (focus ((try dsimp only); exact (PA.out.step st.out.1).all)); clear hK K
    try simp only [Act.put, s1, s2, s3, s4, s5, s6]
    refine r2 2 3 (fun K hK => ?_) (fun K hK => ?_)
    ·go_simp; replace st := hide (st.out.lb #[.int .i64 a.s, sv a.v, .bool a.x.s, sv a.x.u, sv a.x.t, .int .i64 a.s, sv a.v, .bool a.x.s, sv a.x.u, sv a.x.t] rfl (by simp [maxLen])); generalize (V1.alloc (.cells #[.int .i64 a.s, sv a.v, .bool a.x.s, sv a.x.u, sv a.x.t, .int .i64 a.s, sv a.v, .bool a.x.s, sv a.x.u, sv a.x.t] 54)) = V2 at *; generalize V1.heap.size = gk at *; (try dsimp only); refine hK.out _ _ ?_ (fun hHeld => ?_); (focus ((try dsimp only); exact (PA.out.step st.out.1).all)); clear hK K
     try simp only [Act.put, s1, s2, s3, s4, s5, s6]
     refine r1 3 (fun K hK => ?_)
     go_simp; go_at_call 47; refine Calls.mono (whole11_g _ 1 (by omega) (by omega)) ?_; rintro e V3 ⟨z0, rfl, hz, rz, bx⟩; replace st := hide (st.out.wh (zs' := [z0]) bx rz.1.ra hz rfl); clear hz rz bx; (try dsimp only); refine hK.out _ _ ?_ (fun hHeld => ?_); (focus ((try dsimp only); exact (PA.out.step st.out.1).all)); clear hK K
     try simp only [Act.put, s1, s2, s3, s4, s5, s6]
     refine r1 4 (fun K hK => ?_)
     go_simp; go_at_call 47; refine Calls.mono (whole11_g _ 1 (by omega) (by omega)) ?_; rintro e V4 ⟨z1, rfl, hz, rz, bx⟩; replace st := hide (st.out.wh (zs' := [z0, z1]) bx rz.1.ra hz rfl); clear hz rz bx; (try dsimp only); refine hK.out _ _ ?_ (fun hHeld => ?_); (focus ((try dsimp only); exact (PA.out.step st.out.1).all)); clear hK K
     try simp only [Act.put, s1, s2, s3, s4, s5, s6]
     refine r1 5 (fun K hK => ?_)
     go_simp; replace st := hide (st.out.fb #[.bool z0.s, sv z0.u, sv z0.t, .bool z1.s, sv z1.u, sv z1.t] rfl (by simp [maxLen])); generalize (V4.alloc (.cells #[.bool z0.s, sv z0.u, sv z0.t, .bool z1.s, sv z1.u, sv z1.t] 42)) = V5 at *; generalize V4.heap.size = gr at *; (try dsimp only); refine hK.out _ _ ?_ (fun hHeld => ?_); (focus ((try dsimp only); exact (PA.out.step st.out.1).all)); clear hK K
     try simp only [Act.put, s1, s2, s3, s4, s5, s6]
     refine r1 8 (fun K hK => ?_)
     go_simp; go_at_call 26; refine Calls.mono (st.out.comb2 HA.out IS.out OA.out.1) ?_; rintro e V6 ⟨r, rfl, ho, ht, hl⟩; replace st := hide ho; have TI := hide ht; have KL := hide hl; clear ho ht hl; (try dsimp only); refine hK.out _ _ ?_ (fun hHeld => ?_); (focus ((try dsimp only); exact (PA.out.step st.out.1).all)); clear hK K
     refine tp 9 hHeld ?_
     try simp only [Act.put, s1, s2, s3, s4, s5, s6]
     refine tp 10 hHeld ?_
     refine tp 11 hHeld ?_
     try simp only [Act.put, s1, s2, s3, s4, s5, s6]
     refine r1 13 (fun K hK => ?_)
     obtain ⟨⟨k0, k1, k2, k3, k4⟩, ⟨y0, y1, y2, y3, y4⟩, fin⟩ := st.out.put TI.out KL.out; have FN := hide fin; clear fin; go_simp; clear k0 k1 k2 k3 k4 y0 y1 y2 y3 y4; (try dsimp only); refine hK.out _ _ ?_ (fun hHeld => ?_); (focus ((try dsimp only); exact (PA.out.step FN.out.below).all)); clear hK K
     refine tp 14 hHeld ?_
     try simp only [Act.put, s1, s2, s3, s4, s5, s6]
     refine wpAnyH_done (by kernel_rfl) ?_ _; go_wp2_with fail; go_meet; exact FN.out
    ·go_simp; go_at_call 47; refine Calls.mono (whole11_g _ 1 (by omega) (by omega)) ?_; rintro e V2 ⟨z0, rfl, hz, rz, bx⟩; replace st := hide (st.out.wh (zs' := [z0]) bx rz.1.ra hz rfl); clear hz rz bx; (try dsimp only); refine hK.out _ _ ?_ (fun hHeld => ?_); (focus ((try dsimp only); exact (PA.out.step st.out.1).all)); clear hK K
     try simp only [Act.put, s1, s2, s3, s4, s5, s6]
     refine r2 2 4 (fun K hK => ?_) (fun K hK => ?_)
     ·go_simp; replace st := hide (st.out.lb #[.int .i64 a.s, sv a.v, .bool a.x.s, sv a.x.u, sv a.x.t, .int .i64 a.s, sv a.v, .bool a.x.s, sv a.x.u, sv a.x.t] rfl (by simp [maxLen])); generalize (V2.alloc (.cells #[.int .i64 a.s, sv a.v, .bool a.x.s, sv a.x.u, sv a.x.t, .int .i64 a.s, sv a.v, .bool a.x.s, sv a.x.u, sv a.x.t] 54)) = V3 at *; generalize V2.heap.size = gk at *; (try dsimp only); refine hK.out _ _ ?_ (fun hHeld => ?_); (focus ((try dsimp only); exact (PA.out.step st.out.1).all)); clear hK K
      try simp only [Act.put, s1, s2, s3, s4, s5, s6]
      refine r1 4 (fun K hK => ?_)
      go_simp; go_at_call 47; refine Calls.mono (whole11_g _ 1 (by omega) (by omega)) ?_; rintro e V4 ⟨z1, rfl, hz, rz, bx⟩; replace st := hide (st.out.wh (zs' := [z0, z1]) bx rz.1.ra hz rfl); clear hz rz bx; (try dsimp only); refine hK.out _ _ ?_ (fun hHeld => ?_); (focus ((try dsimp only); exact (PA.out.step st.out.1).all)); clear hK K
      try simp only [Act.put, s1, s2, s3, s4, s5, s6]
      refine r1 5 (fun K hK => ?_)
      go_simp; replace st := hide (st.out.fb #[.bool z0.s, sv z0.u, sv z0.t, .bool z1.s, sv z1.u, sv z1.t] rfl (by simp [maxLen])); generalize (V4.alloc (.cells #[.bool z0.s, sv z0.u, sv z0.t, .bool z1.s, sv z1.u, sv z1.t] 42)) = V5 at *; generalize V4.heap.size = gr at *; (try dsimp only); refine hK.out _ _ ?_ (fun hHeld => ?_); (focus ((try dsimp only); exact (PA.out.step st.out.1).all)); clear hK K
      try simp only [Act.put, s1, s2, s3, s4, s5, s6]
      refine r1 8 (fun K hK => ?_)
      go_simp; go_at_call 26; refine Calls.mono (st.out.comb2 HA.out IS.out OA.out.1) ?_; rintro e V6 ⟨r, rfl, ho, ht, hl⟩; replace st := hide ho; have TI := hide ht; have KL := hide hl; clear ho ht hl; (try dsimp only); refine hK.out _ _ ?_ (fun hHeld => ?_); (focus ((try dsimp only); exact (PA.out.step st.out.1).all)); clear hK K
      refine tp 9 hHeld ?_
      try simp only [Act.put, s1, s2, s3, s4, s5, s6]
      refine tp 10 hHeld ?_
      refine tp 11 hHeld ?_
      try simp only [Act.put, s1, s2, s3, s4, s5, s6]
      refine r1 13 (fun K hK => ?_)
      obtain ⟨⟨k0, k1, k2, k3, k4⟩, ⟨y0, y1, y2, y3, y4⟩, fin⟩ := st.out.put TI.out KL.out; have FN := hide fin; clear fin; go_simp; clear k0 k1 k2 k3 k4 y0 y1 y2 y3 y4; (try dsimp only); refine hK.out _ _ ?_ (fun hHeld => ?_); (focus ((try dsimp only); exact (PA.out.step FN.out.below).all)); clear hK K
      refine tp 14 hHeld ?_
      try simp only [Act.put, s1, s2, s3, s4, s5, s6]
      refine wpAnyH_done (by kernel_rfl) ?_ _; go_wp2_with fail; go_meet; exact FN.out
     ·go_simp; go_at_call 47; refine Calls.mono (whole11_g _ 1 (by omega) (by omega)) ?_; rintro e V3 ⟨z1, rfl, hz, rz, bx⟩; replace st := hide (st.out.wh (zs' := [z0, z1]) bx rz.1.ra hz rfl); clear hz rz bx; (try dsimp only); refine hK.out _ _ ?_ (fun hHeld => ?_); (focus ((try dsimp only); exact (PA.out.step st.out.1).all)); clear hK K
      try simp only [Act.put, s1, s2, s3, s4, s5, s6]
      refine r2 2 5 (fun K hK => ?_) (fun K hK => ?_)
      ·go_simp; replace st := hide (st.out.lb #[.int .i64 a.s, sv a.v, .bool a.x.s, sv a.x.u, sv a.x.t, .int .i64 a.s, sv a.v, .bool a.x.s, sv a.x.u, sv a.x.t] rfl (by simp [maxLen])); generalize (V3.alloc (.cells #[.int .i64 a.s, sv a.v, .bool a.x.s, sv a.x.u, sv a.x.t, .int .i64 a.s, sv a.v, .bool a.x.s, sv a.x.u, sv a.x.t] 54)) = V4 at *; generalize V3.heap.size = gk at *; (try dsimp only); refine hK.out _ _ ?_ (fun hHeld => ?_); (focus ((try dsimp only); exact (PA.out.step st.out.1).all)); clear hK K
       try simp only [Act.put, s1, s2, s3, s4, s5, s6]
       refine r1 5 (fun K hK => ?_)
       go_simp; replace st := hide (st.out.fb #[.bool z0.s, sv z0.u, sv z0.t, .bool z1.s, sv z1.u, sv z1.t] rfl (by simp [maxLen])); generalize (V4.alloc (.cells #[.bool z0.s, sv z0.u, sv z0.t, .bool z1.s, sv z1.u, sv z1.t] 42)) = V5 at *; generalize V4.heap.size = gr at *; (try dsimp only); refine hK.out _ _ ?_ (fun hHeld => ?_); (focus ((try dsimp only); exact (PA.out.step st.out.1).all)); clear hK K
       try simp only [Act.put, s1, s2, s3, s4, s5, s6]
       refine r1 8 (fun K hK => ?_)
       go_simp; go_at_call 26; refine Calls.mono (st.out.comb2 HA.out IS.out OA.out.1) ?_; rintro e V6 ⟨r, rfl, ho, ht, hl⟩; replace st := hide ho; have TI := hide ht; have KL := hide hl; clear ho ht hl; (try dsimp only); refine hK.out _ _ ?_ (fun hHeld => ?_); (focus ((try dsimp only); exact (PA.out.step st.out.1).all)); clear hK K
       refine tp 9 hHeld ?_
       try simp only [Act.put, s1, s2, s3, s4, s5, s6]
       refine tp 10 hHeld ?_
       refine tp 11 hHeld ?_
       try simp only [Act.put, s1, s2, s3, s4, s5, s6]
       refine r1 13 (fun K hK => ?_)
       obtain ⟨⟨k0, k1, k2, k3, k4⟩, ⟨y0, y1, y2, y3, y4⟩, fin⟩ := st.out.put TI.out KL.out; have FN := hide fin; clear fin; go_simp; clear k0 k1 k2 k3 k4 y0 y1 y2 y3 y4; (try dsimp only); refine hK.out _ _ ?_ (fun hHeld => ?_); (focus ((try dsimp only); exact (PA.out.step FN.out.below).all)); clear hK K
       refine tp 14 hHeld ?_
       try simp only [Act.put, s1, s2, s3, s4, s5, s6]
       refine wpAnyH_done (by kernel_rfl) ?_ _; go_wp2_with fail; go_meet; exact FN.out
      ·go_simp; replace st := hide (st.out.fb #[.bool z0.s, sv z0.u, sv z0.t, .bool z1.s, sv z1.u, sv z1.t] rfl (by simp [maxLen])); generalize (V3.alloc (.cells #[.bool z0.s, sv z0.u, sv z0.t, .bool z1.s, sv z1.u, sv z1.t] 42)) = V4 at *; generalize V3.heap.size = gr at *; (try dsimp only); refine hK.out _ _ ?_ (fun hHeld => ?_); (focus ((try dsimp only); exact (PA.out.step st.out.1).all)); clear hK K
       try simp only [Act.put, s1, s2, s3, s4, s5, s6]
       refine r1 2 (fun K hK => ?_)
       go_simp; replace st := hide (st.out.lb #[.int .i64 a.s, sv a.v, .bool a.x.s, sv a.x.u, sv a.x.t, .int .i64 a.s, sv a.v, .bool a.x.s, sv a.x.u, sv a.x.t] rfl (by simp [maxLen])); generalize (V4.alloc (.cells #[.int .i64 a.s, sv a.v, .bool a.x.s, sv a.x.u, sv a.x.t, .int .i64 a.s, sv a.v, .bool a.x.s, sv a.x.u, sv a.x.t] 54)) = V5 at *; generalize V4.heap.size = gk at *; (try dsimp only); refine hK.out _ _ ?_ (fun hHeld => ?_); (focus ((try dsimp only); exact (PA.out.step st.out.1).all)); clear hK K
       try simp only [Act.put, s1, s2, s3, s4, s5, s6]
       refine r1 8 (fun K hK => ?_)
       go_simp; go_at_call 26; refine Calls.mono (st.out.comb2 HA.out IS.out OA.out.1) ?_; rintro e V6 ⟨r, rfl, ho, ht, hl⟩; replace st := hide ho; have TI := hide ht; have KL := hide hl; clear ho ht hl; (try dsimp only); refine hK.out _ _ ?_ (fun hHeld => ?_); (focus ((try dsimp only); exact (PA.out.step st.out.1).all)); clear hK K
       refine tp 9 hHeld ?_
       try simp only [Act.put, s1, s2, s3, s4, s5, s6]
       refine tp 10 hHeld ?_
       refine tp 11 hHeld ?_
       try simp only [Act.put, s1, s2, s3, s4, s5, s6]
       refine r1 13 (fun K hK => ?_)
       obtain ⟨⟨k0, k1, k2, k3, k4⟩, ⟨y0, y1, y2, y3, y4⟩, fin⟩ := st.out.put TI.out KL.out; have FN := hide fin; clear fin; go_simp; clear k0 k1 k2 k3 k4 y0 y1 y2 y3 y4; (try dsimp only); refine hK.out _ _ ?_ (fun hHeld => ?_); (focus ((try dsimp only); exact (PA.out.step FN.out.below).all)); clear hK K
       refine tp 14 hHeld ?_
       try simp only [Act.put, s1, s2, s3, s4, s5, s6]
       refine wpAnyH_done (by kernel_rfl) ?_ _; go_wp2_with fail; go_meet; exact FN.out
  case rest =>
   obtain ⟨g7, r7, rfl, rfl, l7, p7, k7, d7, t7, bx⟩ := hcut
   have P7 := hide p7
   have K7 := hide k7
   have D7 := hide d7
   have T7 := hide t7
   clear p7 k7 d7 t7
   replace PA := hide (PA.out.step bx)
   replace HA := hide (HA.out.step bx)
   replace HU := hide (HU.out.step bx)
   replace P5 := hide (P5.out.step bx)
   replace K5 := hide (K5.out.step bx)
   replace B := hide (Below.step B.out B.out.size bx)
   clear bx
   go_wp2_with fail
   have bx := (Below.refl wc.heap.size wc).drew
   replace PA := hide (PA.out.step bx)
   replace HA := hide (HA.out.step bx)
   replace HU := hide (HU.out.step bx)
   replace P5 := hide (P5.out.step bx)
   replace K5 := hide (K5.out.step bx)
   replace P7 := hide (P7.out.step bx)
   replace K7 := hide (K7.out.step bx)
   replace B := hide (Below.step B.out B.out.size bx)
   clear bx
   go_region_held3 (fun W => (W.cell? ⟨w.heap.size, 0, none⟩ = some (.int .i64 a.s) ∧ W.cell? ⟨w.heap.size, 1, none⟩ = some (sv a.v) ∧ W.cell? ⟨w.heap.size, 2, none⟩ = some (.bool a.x.s) ∧ W.cell? ⟨w.heap.size, 3, none⟩ = some (sv a.x.u) ∧ W.cell? ⟨w.heap.size, 4, none⟩ = some (sv a.x.t)) ∧ (W.cell? ⟨g5, 0, none⟩ = some (.int .i64 r5.s) ∧ W.cell? ⟨g5, 1, none⟩ = some (sv r5.v) ∧ W.cell? ⟨g5, 2, none⟩ = some (.bool r5.x.s) ∧ W.cell? ⟨g5, 3, none⟩ = some (sv r5.x.u) ∧ W.cell? ⟨g5, 4, none⟩ = some (sv r5.x.t)) ∧ (W.cell? ⟨g7, 0, none⟩ = some (.int .i64 r7.s) ∧ W.cell? ⟨g7, 1, none⟩ = some (sv r7.v) ∧ W.cell? ⟨g7, 2, none⟩ = some (.bool r7.x.s) ∧ W.cell? ⟨g7, 3, none⟩ = some (sv r7.x.u) ∧ W.cell? ⟨g7, 4, none⟩ = some (sv r7.x.t)))
    (with_reducible exact ⟨PA.out.all, P5.out.all, P7.out.all⟩)
    (first
     | (go_at_call 34; refine Calls.mono (kform_g (L := 6) HA.out (by have := OA.out.1; omega) (by omega) (by omega)) ?_; rintro e wx ⟨fo, rfl, fg, fs, fa, fr, fn, bx⟩; have FG := hide fg; have WE := hide (show r5.s = fo.s ∧ tms r5.d = tms fo.d ∧ r5.x.r = fo.x.r from ⟨T5.out.1.trans fs.symm, K5.out.2.2.unique fg.2.2 (fun c hc => by rw [T5.out.2.1 c hc, fa c hc]; grind), by rw [T5.out.2.2, fr]; grind⟩); clear fg fs fa fr fn; replace PA := hide (PA.out.step bx); replace HA := hide (HA.out.step bx); replace HU := hide (HU.out.step bx); replace P5 := hide (P5.out.step bx); replace K5 := hide (K5.out.step bx); replace P7 := hide (P7.out.step bx); replace K7 := hide (K7.out.step bx); replace B := hide (Below.step B.out B.out.size bx); clear bx)
     | (go_at_call 29; refine Calls.mono (samecons_x K5.out FG.out.kc) ?_; rintro e wx ⟨hb, bx⟩; obtain rfl := hb.yes WE.out; clear hb; replace PA := hide (PA.out.step bx); replace HA := hide (HA.out.step bx); replace HU := hide (HU.out.step bx); replace P5 := hide (P5.out.step bx); replace K5 := hide (K5.out.step bx); replace P7 := hide (P7.out.step bx); replace K7 := hide (K7.out.step bx); replace B := hide (Below.step B.out B.out.size bx); clear bx)
     | (go_at_call 40; have HH9 := HH.out; refine Calls.mono (kholds_c HA.out HU.out (by have := OA.out.1; omega) (by omega) (by omega) (by omega) (by omega)) ?_; rintro e wx ⟨⟨o2, rfl, h2⟩, bx⟩; obtain rfl : o1 = o2 := bool_same HH9 (h2.trans (by rw [T7.out.1, tim_dt T7.out (n := f.length) (fun c hc => xf_out f c hc), T7.out.2.2, show (2 : Rat) * a.x.r = a.x.r + a.x.r by grind]; exact (twice_kpt IS.out _ _).symm)); clear h2 HH9; replace PA := hide (PA.out.step bx); replace HA := hide (HA.out.step bx); replace HU := hide (HU.out.step bx); replace P5 := hide (P5.out.step bx); replace K5 := hide (K5.out.step bx); replace P7 := hide (P7.out.step bx); replace K7 := hide (K7.out.step bx); replace B := hide (Below.step B.out B.out.size bx); clear bx)
     | (go_at_call 40; refine Calls.mono (kholds_c K7.out.kv HU.out (by have := D7.out; omega) (by omega) (by omega) (by omega) (by omega)) ?_; rintro e wx ⟨⟨o1, rfl, h1⟩, bx⟩; have HH := hide h1; clear h1; replace PA := hide (PA.out.step bx); replace HA := hide (HA.out.step bx); replace HU := hide (HU.out.step bx); replace P5 := hide (P5.out.step bx); replace K5 := hide (K5.out.step bx); replace P7 := hide (P7.out.step bx); replace K7 := hide (K7.out.step bx); replace B := hide (Below.step B.out B.out.size bx); clear bx)
     | (go_at_call 38; have HF9 := HF.out; refine Calls.mono (kfalse_c HA.out (by have := OA.out.1; omega) (by omega) (by omega)) ?_; rintro e wx ⟨⟨o4, rfl, h4⟩, bx⟩; obtain rfl : o3 = o4 := bool_same HF9 (h4.trans (tim_fls T7.out).symm); clear h4 HF9; replace PA := hide (PA.out.step bx); replace HA := hide (HA.out.step bx); replace HU := hide (HU.out.step bx); replace P5 := hide (P5.out.step bx); replace K5 := hide (K5.out.step bx); replace P7 := hide (P7.out.step bx); replace K7 := hide (K7.out.step bx); replace B := hide (Below.step B.out B.out.size bx); clear bx)
     | (go_at_call 38; refine Calls.mono (kfalse_c K7.out.kv (by have := D7.out; omega) (by omega) (by omega)) ?_; rintro e wx ⟨⟨o3, rfl, h3⟩, bx⟩; have HF := hide h3; clear h3; replace PA := hide (PA.out.step bx); replace HA := hide (HA.out.step bx); replace HU := hide (HU.out.step bx); replace P5 := hide (P5.out.step bx); replace K5 := hide (K5.out.step bx); replace P7 := hide (P7.out.step bx); replace K7 := hide (K7.out.step bx); replace B := hide (Below.step B.out B.out.size bx); clear bx))
   all_goals
    go_wp2_with fail
    go_ret
    exact ⟨rfl, B.out⟩
end Go.Proofs.YtfnngcaalpknlaaGreat
