
/-
  The document's constraints: Split.
-/
import Derived.Test.YtfnngcaalpknlaaGreatBundleQ
import Derived.Test.YtfnngcaalpknlaaGreatBundleI
import Derived.Test.YtfnngcaalpknlaaGreatKdrw
import Derived.Deep.DeepCutAuto


namespace Go.Proofs.YtfnngcaalpknlaaGreat
open Go.RowKit Go.Proofs.YtfnngcaalpknlaaGreat.Num
set_option linter.unusedVariables false
set_option linter.unusedSimpArgs false
set_option maxRecDepth 100000
theorem kq_two (W : World) (a b : Kx) : Kq ((W.alloc (kbox a)).alloc (kbox b)) W.heap.size a ∧ Kq ((W.alloc (kbox a)).alloc (kbox b)) (W.heap.size + 1) b ∧ Below W.heap.size W ((W.alloc (kbox a)).alloc (kbox b)) :=
  ⟨(Kq.new W a).step ((Below.refl _ _).alloc (Nat.le_refl _) _), by
    have h := Kq.new (W.alloc (kbox a)) b
    have h2 : Kq ((W.alloc (kbox a)).alloc (kbox b)) (W.heap.size + 1) b := by simpa using h
    exact h2, ((Below.refl _ _).alloc (Nat.le_refl _) _).alloc (by simp) _⟩
theorem Kq.dr {W : World} {g : Nat} {k : Kx} (h : Kq W g k) : Kq W.drew g k := h.step (Below.refl _ _).drew
theorem Kq.ald {W : World} {g : Nat} {k : Kx} (h : Kq W g k) (o : Obj) : Kq (W.alloc o) g k := h.step ((Below.refl _ _).alloc (Nat.le_refl _) o)
def SpTwo (W0 : World) (a b : Kx) (s7 s8 : Value) (wx : World) : Prop :=
  ∃ g7 g8 : Nat, s7 = .pointer (some ⟨g7, 0, none⟩) ∧ s8 = .pointer (some ⟨g8, 0, none⟩) ∧ W0.heap.size ≤ g7 ∧ W0.heap.size ≤ g8 ∧ g7 ≠ g8 ∧ Kq wx g7 a ∧ Kq wx g8 b ∧ Below W0.heap.size W0 wx
theorem sptwo1 (W0 : World) (a b : Kx) : SpTwo W0 a b (.pointer (some ⟨W0.heap.size, 0, none⟩)) (.pointer (some ⟨W0.heap.size + 1, 0, none⟩)) ((W0.alloc (kbox a)).alloc (kbox b)).drew :=
  ⟨_, _, rfl, rfl, Nat.le_refl _, by omega, by omega, (kq_two W0 a b).1.dr, (kq_two W0 a b).2.1.dr, (kq_two W0 a b).2.2.drew⟩
theorem sptwo2 (W0 : World) (a b : Kx) : SpTwo W0 a b (.pointer (some ⟨W0.heap.size + 1, 0, none⟩)) (.pointer (some ⟨W0.heap.size, 0, none⟩)) ((W0.alloc (kbox b)).alloc (kbox a)).drew :=
  ⟨_, _, rfl, rfl, by omega, Nat.le_refl _, by omega, (kq_two W0 b a).2.1.dr, (kq_two W0 b a).1.dr, (kq_two W0 b a).2.2.drew⟩
abbrev put5 (W : World) (g : Nat) (k : Kx) : World := ((((W.setCell ⟨g, 0, none⟩ (.int .i64 k.s)).setCell ⟨g, 1, none⟩ (sv k.v)).setCell ⟨g, 2, none⟩ (.bool k.x.s)).setCell ⟨g, 3, none⟩ (sv k.x.u)).setCell ⟨g, 4, none⟩ (sv k.x.t)
theorem Kq.oth5 {W : World} {g h : Nat} {k : Kx} (z : Kq W h k) (hne : h ≠ g) (y : Kx) : Kq (put5 W g y) h k := ((((z.other hne _ _).other hne _ _).other hne _ _).other hne _ _).other hne _ _
theorem Kq.pu {W : World} {g : Nat} {k : Kx} (h : Kq W g k) (k' : Kx) : Kq (put5 W g k') g k' := put5_heap h rfl _ _ _ _ _
theorem Kq.allx {W : World} {g : Nat} {k : Kx} (h : Kq W g k) : W.cell? ⟨g, 2, none⟩ = some (.bool k.x.s) ∧ W.cell? ⟨g, 3, none⟩ = some (sv k.x.u) ∧ W.cell? ⟨g, 4, none⟩ = some (sv k.x.t) := h.all.2.2
def SpP (W0 W : World) (g7 g8 : Nat) (a b : Kx) (fl : List Bool) : Prop :=
  ∃ lo hi : Kx, Kq W g7 lo ∧ Kq W g8 hi ∧ Below W0.heap.size W0 W ∧ Kv W lo 6 ∧ Kv W hi 6 ∧ (Spl a.s (tms a.d) a.x.r b.s (tms b.d) b.x.r (bAt fl) ↔ Alk (tms a.d) (tms b.d) ∧ Whl (tms a.d) (bAt fl) ∧ Isw lo.x.r ∧ hi.x.r = lo.x.r + 1)
theorem spl_one {s s' : Int} {ts ts' : List Tm} {r r' : Rat} {wh : Int → Prop} (h1 : s = 1) (h2 : s' = 2) : Spl s ts r s' ts' r' wh ↔ Alk ts ts' ∧ Whl ts wh ∧ Isw r ∧ r' = r + 1 := by
  unfold Spl Spl1
  rw [h1, h2]
  constructor
  · rintro (⟨-, -, h⟩ | ⟨h, -⟩)
    · exact h
    · omega
  · intro h
    exact .inl ⟨rfl, rfl, h⟩
theorem spl_two {s s' : Int} {ts ts' : List Tm} {r r' : Rat} {wh : Int → Prop} (h1 : s = 2) (h2 : s' = 1) : Spl s ts r s' ts' r' wh ↔ Alk ts ts' ∧ Whl ts wh ∧ Isw r' ∧ r = r' + 1 := by
  unfold Spl Spl1
  rw [h1, h2]
  constructor
  · rintro (⟨h, -⟩ | ⟨-, -, h, k, l⟩)
    · omega
    · exact ⟨h.symm, (h.whl wh).1 k, l⟩
  · rintro ⟨h, k, l⟩
    exact .inr ⟨rfl, rfl, h.symm, (h.whl wh).1 k, l⟩
theorem rqsub_k {w : World} {a b : Value} {r1 r2 : Rat} {L : Nat} (ha : Rf w a r1 L) (hb : Rf w b r2 L) (h1 : 1 ≤ L) (hL : L ≤ 4000000000) :
    Calls Tryz.prog 105 #[a, b] w (RxRet w (r1 - r2) (L + L + 1)) :=
  (rqsub_any ha hb h1 (by omega)).mono fun e w' h => by
    obtain ⟨v, e1, h2, h3⟩ := h
    exact RfRet.to ⟨v, e1, h2, h3⟩ h2.sz
theorem split_pq {p q : Rat} : q - p = 1 ↔ q = p + 1 := by
  constructor <;> intro h <;> grind
def SSt (W0 : World) (lo hi : Kx) (p q : Option Rx) (g h : Option Nat) (V : World) : Prop :=
  Below W0.heap.size W0 V ∧ (∀ x, p = some x → Rf V (rx x) x.r 30 ∧ x.r = lo.x.r) ∧ (∀ x, q = some x → Rf V (rx x) x.r 30 ∧ x.r = hi.x.r) ∧ (∀ j, g = some j → Fb V j ∧ W0.heap.size ≤ j) ∧ (∀ j, h = some j → Fb V j ∧ W0.heap.size ≤ j) ∧ ∀ i j, g = some i → h = some j → i ≠ j
theorem SSt.start (W : World) (lo hi : Kx) : SSt W lo hi none none none none W.drew :=
  ⟨(Below.refl _ _).drew, fun _ e => (by cases e), fun _ e => (by cases e), fun _ e => (by cases e), fun _ e => (by cases e), fun _ _ e => by cases e⟩
def SpQ (W0 : World) (lo hi : Kx) (s9 s10 : Value) (wx : World) : Prop :=
  ∃ (g h : Nat) (p q : Rx), s9 = .pointer (some ⟨g, 0, none⟩) ∧ s10 = .pointer (some ⟨h, 0, none⟩) ∧ Fq wx g p.s (sv p.u) (sv p.t) ∧ Fq wx h q.s (sv q.u) (sv q.t) ∧ (Rf wx (rx p) p.r 30 ∧ p.r = lo.x.r) ∧ (Rf wx (rx q) q.r 30 ∧ q.r = hi.x.r) ∧ Below W0.heap.size W0 wx
theorem Fb.nui {W : World} {g : Nat} (h : Fb W g) : NuI W g := Fq.nui (s := false) (A := none) (n := 0) (c := 0) (D := none) (m := 0) (d := 0) h
section
variable {W0 V V' : World} {lo hi : Kx} {p q : Option Rx} {g h : Option Nat}
theorem SSt.step (k : SSt W0 lo hi p q g h V) (bx : Below V.heap.size V V') : SSt W0 lo hi p q g h V' :=
  ⟨Below.step k.1 k.1.size bx, fun x e => ⟨(k.2.1 x e).1.step bx, (k.2.1 x e).2⟩, fun x e => ⟨(k.2.2.1 x e).1.step bx, (k.2.2.1 x e).2⟩, fun j e => ⟨(k.2.2.2.1 j e).1.step bx, (k.2.2.2.1 j e).2⟩, fun j e => ⟨(k.2.2.2.2.1 j e).1.step bx, (k.2.2.2.2.1 j e).2⟩, k.2.2.2.2.2⟩
theorem SSt.one (k : SSt W0 lo hi none q g h V) (bx : Below V.heap.size V V') {x : Rx} (hr : Rf V' (rx x) x.r 30) (hx : x.r = lo.x.r) : SSt W0 lo hi (some x) q g h V' := by
  have s := k.step bx
  exact ⟨s.1, fun y e => by cases e; exact ⟨hr, hx⟩, s.2.2⟩
theorem SSt.two (k : SSt W0 lo hi p none g h V) (bx : Below V.heap.size V V') {x : Rx} (hr : Rf V' (rx x) x.r 30) (hx : x.r = hi.x.r) : SSt W0 lo hi p (some x) g h V' := by
  have s := k.step bx
  exact ⟨s.1, s.2.1, fun y e => by cases e; exact ⟨hr, hx⟩, s.2.2.2⟩
theorem SSt.al1 (k : SSt W0 lo hi p q none h V) : SSt W0 lo hi p q (some V.heap.size) h (V.alloc fqblk) := by
  have s := k.step ((Below.refl _ _).alloc (Nat.le_refl _) fqblk)
  refine ⟨s.1, s.2.1, s.2.2.1, fun j e => by cases e; exact ⟨Fb.new V, k.1.size⟩, s.2.2.2.2.1, fun i j e e' => ?_⟩
  cases e
  have := (k.2.2.2.2.1 j e').1.lt
  omega
theorem SSt.al2 (k : SSt W0 lo hi p q g none V) : SSt W0 lo hi p q g (some V.heap.size) (V.alloc fqblk) := by
  have s := k.step ((Below.refl _ _).alloc (Nat.le_refl _) fqblk)
  refine ⟨s.1, s.2.1, s.2.2.1, s.2.2.2.1, fun j e => by cases e; exact ⟨Fb.new V, k.1.size⟩, fun i j e e' => ?_⟩
  cases e'
  have := (k.2.2.2.1 i e).1.lt
  omega
theorem SSt.of1 (k : SSt W0 lo hi none q g h V) (hk : Kv W0 lo 6) : Calls Tryz.prog 16 #[rx lo.x] V fun e w' => ∃ x : Rx, e = .returned (rx x) ∧ SSt W0 lo hi (some x) q g h w' :=
  (rof_f (L := 6) (hk.step k.1).2 (by omega) (by omega)).mono fun e w' ⟨x, h1, h2, h3, bx⟩ => ⟨x, h1, k.one bx h3 h2⟩
theorem SSt.of2 (k : SSt W0 lo hi p none g h V) (hk : Kv W0 hi 6) : Calls Tryz.prog 16 #[rx hi.x] V fun e w' => ∃ x : Rx, e = .returned (rx x) ∧ SSt W0 lo hi p (some x) g h w' :=
  (rof_f (L := 6) (hk.step k.1).2 (by omega) (by omega)).mono fun e w' ⟨x, h1, h2, h3, bx⟩ => ⟨x, h1, k.two bx h3 h2⟩
theorem SSt.put1 {i j : Nat} {x y : Rx} (k : SSt W0 lo hi (some x) (some y) (some i) (some j) V) :
    ∃ V', (((V.setCell ⟨i, 0, none⟩ (.bool x.s)).setCell ⟨i, 1, none⟩ (sv x.u)).setCell ⟨i, 2, none⟩ (sv x.t)) = V' ∧ (V.cell? ⟨i, 0, none⟩ = some (.bool false) ∧ V.cell? ⟨i, 1, none⟩ = some (.slice none 0 0) ∧ V.cell? ⟨i, 2, none⟩ = some (.slice none 0 0)) ∧ (V.frozen? ⟨i, 0, none⟩ = false ∧ V.frozen? ⟨i, 1, none⟩ = false ∧ V.frozen? ⟨i, 2, none⟩ = false) ∧
      (Fq V' i x.s (sv x.u) (sv x.t) ∧ SSt W0 lo hi (some x) (some y) none (some j) V' ∧ i ≠ j) := by
  obtain ⟨b, hp, hq, hg, hh, hne⟩ := k
  obtain ⟨Z, lg⟩ := hg i rfl
  have gr := only_put3 V i (.bool x.s) (sv x.u) (sv x.t)
  refine ⟨_, rfl, ⟨Z.c0, Z.c1, Z.c2⟩, ⟨Z.fz 0, Z.fz 1, Z.fz 2⟩, Z.set _ _ _, ⟨below_put3 b lg _ _ _, fun z e => ?_, fun z e => ?_, fun _ e => (by cases e), fun l e => ?_, fun _ _ e => (by cases e)⟩, hne i j rfl rfl⟩
  · exact ⟨(hp z e).1.grownI gr Z.nui, (hp z e).2⟩
  · exact ⟨(hq z e).1.grownI gr Z.nui, (hq z e).2⟩
  · exact ⟨(hh l e).1.other (fun h => hne i l rfl e h.symm) _ _ _, (hh l e).2⟩
theorem SSt.put2 {i j : Nat} {x y : Rx} (k : SSt W0 lo hi (some x) (some y) none (some j) V) (hi1 : Fq V i x.s (sv x.u) (sv x.t)) (hne : i ≠ j) :
    ∃ V', (((V.setCell ⟨j, 0, none⟩ (.bool y.s)).setCell ⟨j, 1, none⟩ (sv y.u)).setCell ⟨j, 2, none⟩ (sv y.t)) = V' ∧ (V.cell? ⟨j, 0, none⟩ = some (.bool false) ∧ V.cell? ⟨j, 1, none⟩ = some (.slice none 0 0) ∧ V.cell? ⟨j, 2, none⟩ = some (.slice none 0 0)) ∧ (V.frozen? ⟨j, 0, none⟩ = false ∧ V.frozen? ⟨j, 1, none⟩ = false ∧ V.frozen? ⟨j, 2, none⟩ = false) ∧
      SpQ W0 lo hi (.pointer (some ⟨i, 0, none⟩)) (.pointer (some ⟨j, 0, none⟩)) V' := by
  obtain ⟨b, hp, hq, hg, hh, -⟩ := k
  obtain ⟨Z, lg⟩ := hh j rfl
  have gr := only_put3 V j (.bool y.s) (sv y.u) (sv y.t)
  exact ⟨_, rfl, ⟨Z.c0, Z.c1, Z.c2⟩, ⟨Z.fz 0, Z.fz 1, Z.fz 2⟩, i, j, x, y, rfl, rfl, ((Below.heap_setCell _ _ _ i hne).trans ((Below.heap_setCell _ _ _ i hne).trans (Below.heap_setCell _ _ _ i hne))).trans hi1, Z.set _ _ _,
    ⟨(hp x rfl).1.grownI gr Z.nui, (hp x rfl).2⟩, ⟨(hq y rfl).1.grownI gr Z.nui, (hq y rfl).2⟩, below_put3 b lg _ _ _⟩
theorem SpQ.below {s9 s10 : Value} (h : SpQ W0 lo hi s9 s10 V) : Below W0.heap.size W0 V := by
  obtain ⟨g, h, p, q, -, -, -, -, -, -, h⟩ := h
  exact h
end
set_option maxHeartbeats 16000000 in
theorem rsplit_f {w : World} {a b : Kx} {u : Value} {fl : List Bool} (ha : Kv w a 6) (hb : Kv w b 6) (hu : Lr eb1 1 w u fl) (hn : a.d.length ≤ 30) (hm : b.d.length ≤ 30) (hs : -9223372036854775808 ≤ b.s ∧ b.s ≤ 9223372036854775807) :
    Calls Tryz.prog 45 #[kx a, kx b, u] w fun e w' => BRet (Spl a.s (tms a.d) a.x.r b.s (tms b.d) b.x.r (bAt fl)) e ∧ Below w.heap.size w w' := by
  have b2 : Below w.heap.size w ((w.alloc (kbox a)).alloc (kbox b)) := ((Below.refl _ _).alloc (Nat.le_refl _) _).alloc (by simp) _
  have P := hide (kq_two w a b).1
  have P2 := hide (kq_two w a b).2.1
  have HA := hide (ha.step b2)
  have HB := hide (hb.step b2)
  have HU := hide (hu.step b2)
  have B := hide b2
  have HN := hide hn
  have HM := hide hm
  obtain ⟨A1, n1, c1, rfl⟩ := rv_sl hu
  clear ha hb b2 hn hm hu
  obtain ⟨p0, p1, p2, p3, p4⟩ := P.out.all
  obtain ⟨q0, q1, q2, q3, q4⟩ := P2.out.all
  go_enter Tryz.func45, Tryz.ntmps45
  by_cases hc : (a.s = 1 ∧ b.s = 2) ∨ (a.s = 2 ∧ b.s = 1)
  case neg =>
    have NE := hide (show ¬ Spl a.s (tms a.d) a.x.r b.s (tms b.d) b.x.r (bAt fl) by
      rintro (h | h)
      · exact hc (.inl ⟨h.1, h.2.1⟩)
      · exact hc (.inr ⟨h.2.1, h.1⟩))
    by_cases e1 : a.s = 1
    · have t1 : (a.s != 1) = false := by rw [e1]; rfl
      have t2 : ¬ wrap64 (a.s + b.s) = 3 := by rw [e1]; unfold wrap64; omega
      clear hc e1
      go_wp2_with fail
      go_ret
      exact ⟨⟨false, rfl, by constructor <;> intro h; cases h; exact absurd h NE.out⟩, B.out⟩
    · by_cases e0 : a.s = 2
      · have t1 : (a.s != 1) = true := bne_iff_ne.2 e1
        have t4 : (a.s != 2) = false := by rw [e0]; rfl
        have t2 : ¬ wrap64 (a.s + b.s) = 3 := by rw [e0]; unfold wrap64; omega
        clear hc e1 e0
        go_wp2_with fail
        go_ret
        exact ⟨⟨false, rfl, by constructor <;> intro h; cases h; exact absurd h NE.out⟩, B.out⟩
      · have t1 : (a.s != 1) = true := bne_iff_ne.2 e1
        have t4 : (a.s != 2) = true := bne_iff_ne.2 e0
        clear hc e1 e0
        go_wp2_with fail
        all_goals
          go_ret
          exact ⟨⟨false, rfl, by constructor <;> intro h; cases h; exact absurd h NE.out⟩, B.out⟩
  rcases hc with ⟨e1, e2⟩ | ⟨e1, e2⟩
  all_goals
    have t2 : wrap64 (a.s + b.s) = 3 := by rw [e1, e2]; unfold wrap64; omega
    have E1 := hide e1
    have E2 := hide e2
    first
    | (have t1 : (a.s != 1) = false := (by rw [e1]; rfl))
    | (have t1 : (a.s != 1) = true := (by rw [e1]; rfl); have t4 : (a.s != 2) = false := (by rw [e1]; rfl))
    first
    | (have t3 : (a.s == 2) = false := (by rw [e1]; rfl))
    | (have t3 : (a.s == 2) = true := (by rw [e1]; rfl))
    clear e1 e2
    go_wp2_with fail
    clear p0 p1 p2 p3 p4 q0 q1 q2 q3 q4
    generalize hW0 : ((w.alloc (kbox a)).alloc (kbox b)) = W0 at *
    have dr := (Below.refl W0.heap.size W0).drew
    have PD := hide (P.out.step dr)
    have PD2 := hide (P2.out.step dr)
    clear dr hW0
    go_cut [7, 8] (fun s7 s8 wx => SpTwo W0 a b s7 s8 wx)
    case first =>
      have hlt := P2.out.lt
      go_region_held3 (fun W => (W.cell? ⟨w.heap.size, 0, none⟩ = some (.int .i64 a.s) ∧ W.cell? ⟨w.heap.size, 1, none⟩ = some (sv a.v) ∧ W.cell? ⟨w.heap.size, 2, none⟩ = some (.bool a.x.s) ∧ W.cell? ⟨w.heap.size, 3, none⟩ = some (sv a.x.u) ∧ W.cell? ⟨w.heap.size, 4, none⟩ = some (sv a.x.t)) ∧ W.cell? ⟨w.heap.size + 1, 0, none⟩ = some (.int .i64 b.s) ∧ W.cell? ⟨w.heap.size + 1, 1, none⟩ = some (sv b.v) ∧ W.cell? ⟨w.heap.size + 1, 2, none⟩ = some (.bool b.x.s) ∧ W.cell? ⟨w.heap.size + 1, 3, none⟩ = some (sv b.x.u) ∧ W.cell? ⟨w.heap.size + 1, 4, none⟩ = some (sv b.x.t))
        (refine ⟨Kq.all ?_, Kq.all ?_⟩ <;> (repeat (first | with_reducible exact P.out | with_reducible exact P2.out | with_reducible exact PD.out | with_reducible exact PD2.out | (with_reducible refine Kq.dr ?_) | (with_reducible refine Kq.ald ?_ _) | (with_reducible refine Kq.other ?_ (by simp <;> omega) _ _))))
        (first | fail)
      · go_wp2_with fail
        go_meet
        exact sptwo1 W0 a b
      · go_wp2_with fail
        go_meet
        exact sptwo2 W0 a b
    case rest =>
      obtain ⟨g7, g8, rfl, rfl, l7, l8, l9, K7, K8, bx⟩ := hcut
      first
      | (have e3 : a.s = 1 := E1.out
         have HP := hide (show SpP W0 wc g7 g8 a b fl from ⟨a, b, K7, K8, bx, HA.out.step bx, HB.out.step bx, spl_one e3 E2.out⟩)
         have PW := hide (P.out.step bx)
         obtain ⟨p0, p1, p2, p3, p4⟩ := PW.out.all
         clear K7 K8 bx
         go_wp2_with fail
         clear p0 p1 p2 p3 p4 PW e3
         obtain ⟨wd, hwd⟩ : ∃ wd, wd = wc := ⟨_, rfl⟩
         subst hwd)
      | (have b5 := below_put5 (below_put5 bx l7 (.int .i64 b.s) (sv b.v) (.bool b.x.s) (sv b.x.u) (sv b.x.t)) l8 (.int .i64 a.s) (sv a.v) (.bool a.x.s) (sv a.x.u) (sv a.x.t)
         have HP := hide (show SpP W0 ((((((((((wc.setCell ⟨g7, 0, none⟩ (.int .i64 b.s)).setCell ⟨g7, 1, none⟩ (sv b.v)).setCell ⟨g7, 2, none⟩ (.bool b.x.s)).setCell ⟨g7, 3, none⟩ (sv b.x.u)).setCell ⟨g7, 4, none⟩ (sv b.x.t)).setCell ⟨g8, 0, none⟩ (.int .i64 a.s)).setCell ⟨g8, 1, none⟩ (sv a.v)).setCell ⟨g8, 2, none⟩ (.bool a.x.s)).setCell ⟨g8, 3, none⟩ (sv a.x.u)).setCell ⟨g8, 4, none⟩ (sv a.x.t)) g7 g8 a b fl from ⟨b, a, (K7.pu b).oth5 l9 a, (K8.oth5 (Ne.symm l9) b).pu a, b5, HB.out.step b5, HA.out.step b5, spl_two E1.out E2.out⟩)
         have PW := hide (P.out.step bx)
         have PW2 := hide (P2.out.step bx)
         obtain ⟨p0, p1, p2, p3, p4⟩ := PW.out.all
         obtain ⟨q0, q1, q2, q3, q4⟩ := PW2.out.all
         obtain ⟨u0, u1, u2, u3, u4⟩ := K7.all
         obtain ⟨v0, v1, v2, v3, v4⟩ := K8.all
         have x0 := K7.fz 0
         have x1 := K7.fz 1
         have x2 := K7.fz 2
         have x3 := K7.fz 3
         have x4 := K7.fz 4
         have y0 := K8.fz 0
         have y1 := K8.fz 1
         have y2 := K8.fz 2
         have y3 := K8.fz 3
         have y4 := K8.fz 4
         have hlt := P.out.lt
         have hlt2 := P2.out.lt
         have n7 : ¬ g7 = g8 := l9
         have n8 : ¬ g8 = g7 := fun h => l9 h.symm
         have m7 : ¬ w.heap.size = g7 := by omega
         have m8 : ¬ w.heap.size = g8 := by omega
         have o7 : ¬ w.heap.size + 1 = g7 := by omega
         have o8 : ¬ w.heap.size + 1 = g8 := by omega
         clear hlt hlt2 K7 K8 b5 bx
         go_wp2_with fail
         clear p0 p1 p2 p3 p4 q0 q1 q2 q3 q4 u0 u1 u2 u3 u4 v0 v1 v2 v3 v4 x0 x1 x2 x3 x4 y0 y1 y2 y3 y4 n7 n8 m7 m8 o7 o8 PW PW2
         generalize ((((((((((wc.setCell ⟨g7, 0, none⟩ (.int .i64 b.s)).setCell ⟨g7, 1, none⟩ (sv b.v)).setCell ⟨g7, 2, none⟩ (.bool b.x.s)).setCell ⟨g7, 3, none⟩ (sv b.x.u)).setCell ⟨g7, 4, none⟩ (sv b.x.t)).setCell ⟨g8, 0, none⟩ (.int .i64 a.s)).setCell ⟨g8, 1, none⟩ (sv a.v)).setCell ⟨g8, 2, none⟩ (.bool a.x.s)).setCell ⟨g8, 3, none⟩ (sv a.x.u)).setCell ⟨g8, 4, none⟩ (sv a.x.t)) = wd at *)
      obtain ⟨lo, hi, k7, k8, bx, vl, vh, sp⟩ := HP.out
      clear t1 t2 t3 l7 l8 l9
      try clear t4
      have Q7 := hide k7
      have Q8 := hide k8
      have VL := hide vl
      have VH := hide vh
      have SP := hide sp
      replace P := hide (P.out.step bx); replace P2 := hide (P2.out.step bx); replace HA := hide (HA.out.step bx); replace HB := hide (HB.out.step bx); replace HU := hide (HU.out.step bx); replace B := hide (Below.step B.out B.out.size bx)
      clear k7 k8 bx vl vh sp HP
      go_cut [9, 10] from 34 to 39 (fun s9 s10 wx => SpQ wd lo hi s9 s10 wx)
      case first =>
        have st := hide (SSt.start wd lo hi)
        have KP := hide (show ∀ V, Below wd.heap.size wd V → _ ∧ _ from fun V h => And.intro (Q7.out.step h).allx (Q8.out.step h).allx)
        refine wp_region_held_drew (S := fun W => (W.cell? ⟨g7, 2, none⟩ = some (.bool lo.x.s) ∧ W.cell? ⟨g7, 3, none⟩ = some (sv lo.x.u) ∧ W.cell? ⟨g7, 4, none⟩ = some (sv lo.x.t)) ∧ (W.cell? ⟨g8, 2, none⟩ = some (.bool hi.x.s) ∧ W.cell? ⟨g8, 3, none⟩ = some (sv hi.x.u) ∧ W.cell? ⟨g8, 4, none⟩ = some (sv hi.x.t))) (by kernel_rfl) ?_ (fun hHeld => ?_)
        · try dsimp only
          exact ⟨Q7.out.dr.allx, Q8.out.dr.allx⟩
        generalize wd.drew = V0 at *
        refine tk 0 (v := ?_) hHeld ?_ ?_; rotate_left; (focus (intro w hSw; (try dsimp only at hSw); go_simp; (try with_reducible rfl)))
        refine tk 3 (v := ?_) hHeld ?_ ?_; rotate_left; (focus (intro w hSw; (try dsimp only at hSw); go_simp; (try with_reducible rfl)))
        try simp only [Act.put, s1, s2, s3, s4, s5, s6]
        refine tk 1 (v := ?_) hHeld ?_ ?_; rotate_left; (focus (intro w hSw; (try dsimp only at hSw); go_simp; (try with_reducible rfl)))
        refine tk 4 (v := ?_) hHeld ?_ ?_; rotate_left; (focus (intro w hSw; (try dsimp only at hSw); go_simp; (try with_reducible rfl)))
        try simp only [Act.put, s1, s2, s3, s4, s5, s6]
        refine r3 2 6 7 (fun K hK => ?_) (fun K hK => ?_) (fun K hK => ?_)
        · go_simp; go_at_call 16; refine (st.out.of1 VL.out).mono ?_; rintro e V1 ⟨xp, rfl, h⟩; replace st := hide h; clear h; refine hK.out _ _ (KP.out _ st.out.1) (fun hHeld => ?_); clear hK K
          try simp only [Act.put, s1, s2, s3, s4, s5, s6]
          refine r3 5 6 7 (fun K hK => ?_) (fun K hK => ?_) (fun K hK => ?_)
          · go_simp; go_at_call 16; refine (st.out.of2 VH.out).mono ?_; rintro e V2 ⟨xq, rfl, h⟩; replace st := hide h; clear h; refine hK.out _ _ (KP.out _ st.out.1) (fun hHeld => ?_); clear hK K
            try simp only [Act.put, s1, s2, s3, s4, s5, s6]
            refine r2 6 7 (fun K hK => ?_) (fun K hK => ?_)
            · go_simp; replace st := hide st.out.al1; generalize (V2.alloc fqblk) = V3 at *; generalize V2.heap.size = g9 at *; refine hK.out _ _ (KP.out _ st.out.1) (fun hHeld => ?_); clear hK K
              try simp only [Act.put, s1, s2, s3, s4, s5, s6]
              refine r1 7 (fun K hK => ?_)
              go_simp; replace st := hide st.out.al2; generalize (V3.alloc fqblk) = V4 at *; generalize V3.heap.size = g10 at *; refine hK.out _ _ (KP.out _ st.out.1) (fun hHeld => ?_); clear hK K
              try simp only [Act.put, s1, s2, s3, s4, s5, s6]
              refine r1 8 (fun K hK => ?_)
              obtain ⟨V5, hV, ⟨k0, k1, k2⟩, ⟨f0, f1, f2⟩, h⟩ := st.out.put1; go_simp; (try rw [hV]); have S1 := hide h; clear hV k0 k1 k2 f0 f1 f2 h; refine hK.out _ _ (KP.out _ S1.out.2.1.1) (fun hHeld => ?_); clear hK K
              try simp only [Act.put, s1, s2, s3, s4, s5, s6]
              refine r1 9 (fun K hK => ?_)
              obtain ⟨V6, hV, ⟨k0, k1, k2⟩, ⟨f0, f1, f2⟩, h⟩ := S1.out.2.1.put2 S1.out.1 S1.out.2.2; go_simp; (try rw [hV]); have FN := hide h; clear hV k0 k1 k2 f0 f1 f2 h; refine hK.out _ _ (KP.out _ FN.out.below) (fun hHeld => ?_); clear hK K
              refine wpAnyH_done (by kernel_rfl) ?_ _
              go_wp2_with fail; go_meet; exact FN.out
            · go_simp; replace st := hide st.out.al2; generalize (V2.alloc fqblk) = V3 at *; generalize V2.heap.size = g10 at *; refine hK.out _ _ (KP.out _ st.out.1) (fun hHeld => ?_); clear hK K
              try simp only [Act.put, s1, s2, s3, s4, s5, s6]
              refine r1 6 (fun K hK => ?_)
              go_simp; replace st := hide st.out.al1; generalize (V3.alloc fqblk) = V4 at *; generalize V3.heap.size = g9 at *; refine hK.out _ _ (KP.out _ st.out.1) (fun hHeld => ?_); clear hK K
              try simp only [Act.put, s1, s2, s3, s4, s5, s6]
              refine r1 8 (fun K hK => ?_)
              obtain ⟨V5, hV, ⟨k0, k1, k2⟩, ⟨f0, f1, f2⟩, h⟩ := st.out.put1; go_simp; (try rw [hV]); have S1 := hide h; clear hV k0 k1 k2 f0 f1 f2 h; refine hK.out _ _ (KP.out _ S1.out.2.1.1) (fun hHeld => ?_); clear hK K
              try simp only [Act.put, s1, s2, s3, s4, s5, s6]
              refine r1 9 (fun K hK => ?_)
              obtain ⟨V6, hV, ⟨k0, k1, k2⟩, ⟨f0, f1, f2⟩, h⟩ := S1.out.2.1.put2 S1.out.1 S1.out.2.2; go_simp; (try rw [hV]); have FN := hide h; clear hV k0 k1 k2 f0 f1 f2 h; refine hK.out _ _ (KP.out _ FN.out.below) (fun hHeld => ?_); clear hK K
              refine wpAnyH_done (by kernel_rfl) ?_ _
              go_wp2_with fail; go_meet; exact FN.out
          · go_simp; replace st := hide st.out.al1; generalize (V1.alloc fqblk) = V2 at *; generalize V1.heap.size = g9 at *; refine hK.out _ _ (KP.out _ st.out.1) (fun hHeld => ?_); clear hK K
            try simp only [Act.put, s1, s2, s3, s4, s5, s6]
            refine r2 5 7 (fun K hK => ?_) (fun K hK => ?_)
            · go_simp; go_at_call 16; refine (st.out.of2 VH.out).mono ?_; rintro e V3 ⟨xq, rfl, h⟩; replace st := hide h; clear h; refine hK.out _ _ (KP.out _ st.out.1) (fun hHeld => ?_); clear hK K
              try simp only [Act.put, s1, s2, s3, s4, s5, s6]
              refine r1 7 (fun K hK => ?_)
              go_simp; replace st := hide st.out.al2; generalize (V3.alloc fqblk) = V4 at *; generalize V3.heap.size = g10 at *; refine hK.out _ _ (KP.out _ st.out.1) (fun hHeld => ?_); clear hK K
              try simp only [Act.put, s1, s2, s3, s4, s5, s6]
              refine r1 8 (fun K hK => ?_)
              obtain ⟨V5, hV, ⟨k0, k1, k2⟩, ⟨f0, f1, f2⟩, h⟩ := st.out.put1; go_simp; (try rw [hV]); have S1 := hide h; clear hV k0 k1 k2 f0 f1 f2 h; refine hK.out _ _ (KP.out _ S1.out.2.1.1) (fun hHeld => ?_); clear hK K
              try simp only [Act.put, s1, s2, s3, s4, s5, s6]
              refine r1 9 (fun K hK => ?_)
              obtain ⟨V6, hV, ⟨k0, k1, k2⟩, ⟨f0, f1, f2⟩, h⟩ := S1.out.2.1.put2 S1.out.1 S1.out.2.2; go_simp; (try rw [hV]); have FN := hide h; clear hV k0 k1 k2 f0 f1 f2 h; refine hK.out _ _ (KP.out _ FN.out.below) (fun hHeld => ?_); clear hK K
              refine wpAnyH_done (by kernel_rfl) ?_ _
              go_wp2_with fail; go_meet; exact FN.out
            · go_simp; replace st := hide st.out.al2; generalize (V2.alloc fqblk) = V3 at *; generalize V2.heap.size = g10 at *; refine hK.out _ _ (KP.out _ st.out.1) (fun hHeld => ?_); clear hK K
              try simp only [Act.put, s1, s2, s3, s4, s5, s6]
              refine r1 5 (fun K hK => ?_)
              go_simp; go_at_call 16; refine (st.out.of2 VH.out).mono ?_; rintro e V4 ⟨xq, rfl, h⟩; replace st := hide h; clear h; refine hK.out _ _ (KP.out _ st.out.1) (fun hHeld => ?_); clear hK K
              try simp only [Act.put, s1, s2, s3, s4, s5, s6]
              refine r1 8 (fun K hK => ?_)
              obtain ⟨V5, hV, ⟨k0, k1, k2⟩, ⟨f0, f1, f2⟩, h⟩ := st.out.put1; go_simp; (try rw [hV]); have S1 := hide h; clear hV k0 k1 k2 f0 f1 f2 h; refine hK.out _ _ (KP.out _ S1.out.2.1.1) (fun hHeld => ?_); clear hK K
              try simp only [Act.put, s1, s2, s3, s4, s5, s6]
              refine r1 9 (fun K hK => ?_)
              obtain ⟨V6, hV, ⟨k0, k1, k2⟩, ⟨f0, f1, f2⟩, h⟩ := S1.out.2.1.put2 S1.out.1 S1.out.2.2; go_simp; (try rw [hV]); have FN := hide h; clear hV k0 k1 k2 f0 f1 f2 h; refine hK.out _ _ (KP.out _ FN.out.below) (fun hHeld => ?_); clear hK K
              refine wpAnyH_done (by kernel_rfl) ?_ _
              go_wp2_with fail; go_meet; exact FN.out
          · go_simp; replace st := hide st.out.al2; generalize (V1.alloc fqblk) = V2 at *; generalize V1.heap.size = g10 at *; refine hK.out _ _ (KP.out _ st.out.1) (fun hHeld => ?_); clear hK K
            try simp only [Act.put, s1, s2, s3, s4, s5, s6]
            refine r2 5 6 (fun K hK => ?_) (fun K hK => ?_)
            · go_simp; go_at_call 16; refine (st.out.of2 VH.out).mono ?_; rintro e V3 ⟨xq, rfl, h⟩; replace st := hide h; clear h; refine hK.out _ _ (KP.out _ st.out.1) (fun hHeld => ?_); clear hK K
              try simp only [Act.put, s1, s2, s3, s4, s5, s6]
              refine r1 6 (fun K hK => ?_)
              go_simp; replace st := hide st.out.al1; generalize (V3.alloc fqblk) = V4 at *; generalize V3.heap.size = g9 at *; refine hK.out _ _ (KP.out _ st.out.1) (fun hHeld => ?_); clear hK K
              try simp only [Act.put, s1, s2, s3, s4, s5, s6]
              refine r1 8 (fun K hK => ?_)
              obtain ⟨V5, hV, ⟨k0, k1, k2⟩, ⟨f0, f1, f2⟩, h⟩ := st.out.put1; go_simp; (try rw [hV]); have S1 := hide h; clear hV k0 k1 k2 f0 f1 f2 h; refine hK.out _ _ (KP.out _ S1.out.2.1.1) (fun hHeld => ?_); clear hK K
              try simp only [Act.put, s1, s2, s3, s4, s5, s6]
              refine r1 9 (fun K hK => ?_)
              obtain ⟨V6, hV, ⟨k0, k1, k2⟩, ⟨f0, f1, f2⟩, h⟩ := S1.out.2.1.put2 S1.out.1 S1.out.2.2; go_simp; (try rw [hV]); have FN := hide h; clear hV k0 k1 k2 f0 f1 f2 h; refine hK.out _ _ (KP.out _ FN.out.below) (fun hHeld => ?_); clear hK K
              refine wpAnyH_done (by kernel_rfl) ?_ _
              go_wp2_with fail; go_meet; exact FN.out
            · go_simp; replace st := hide st.out.al1; generalize (V2.alloc fqblk) = V3 at *; generalize V2.heap.size = g9 at *; refine hK.out _ _ (KP.out _ st.out.1) (fun hHeld => ?_); clear hK K
              try simp only [Act.put, s1, s2, s3, s4, s5, s6]
              refine r1 5 (fun K hK => ?_)
              go_simp; go_at_call 16; refine (st.out.of2 VH.out).mono ?_; rintro e V4 ⟨xq, rfl, h⟩; replace st := hide h; clear h; refine hK.out _ _ (KP.out _ st.out.1) (fun hHeld => ?_); clear hK K
              try simp only [Act.put, s1, s2, s3, s4, s5, s6]
              refine r1 8 (fun K hK => ?_)
              obtain ⟨V5, hV, ⟨k0, k1, k2⟩, ⟨f0, f1, f2⟩, h⟩ := st.out.put1; go_simp; (try rw [hV]); have S1 := hide h; clear hV k0 k1 k2 f0 f1 f2 h; refine hK.out _ _ (KP.out _ S1.out.2.1.1) (fun hHeld => ?_); clear hK K
              try simp only [Act.put, s1, s2, s3, s4, s5, s6]
              refine r1 9 (fun K hK => ?_)
              obtain ⟨V6, hV, ⟨k0, k1, k2⟩, ⟨f0, f1, f2⟩, h⟩ := S1.out.2.1.put2 S1.out.1 S1.out.2.2; go_simp; (try rw [hV]); have FN := hide h; clear hV k0 k1 k2 f0 f1 f2 h; refine hK.out _ _ (KP.out _ FN.out.below) (fun hHeld => ?_); clear hK K
              refine wpAnyH_done (by kernel_rfl) ?_ _
              go_wp2_with fail; go_meet; exact FN.out
        · go_simp; replace st := hide st.out.al1; generalize (V0.alloc fqblk) = V1 at *; generalize V0.heap.size = g9 at *; refine hK.out _ _ (KP.out _ st.out.1) (fun hHeld => ?_); clear hK K
          try simp only [Act.put, s1, s2, s3, s4, s5, s6]
          refine r2 2 7 (fun K hK => ?_) (fun K hK => ?_)
          · go_simp; go_at_call 16; refine (st.out.of1 VL.out).mono ?_; rintro e V2 ⟨xp, rfl, h⟩; replace st := hide h; clear h; refine hK.out _ _ (KP.out _ st.out.1) (fun hHeld => ?_); clear hK K
            try simp only [Act.put, s1, s2, s3, s4, s5, s6]
            refine r2 5 7 (fun K hK => ?_) (fun K hK => ?_)
            · go_simp; go_at_call 16; refine (st.out.of2 VH.out).mono ?_; rintro e V3 ⟨xq, rfl, h⟩; replace st := hide h; clear h; refine hK.out _ _ (KP.out _ st.out.1) (fun hHeld => ?_); clear hK K
              try simp only [Act.put, s1, s2, s3, s4, s5, s6]
              refine r1 7 (fun K hK => ?_)
              go_simp; replace st := hide st.out.al2; generalize (V3.alloc fqblk) = V4 at *; generalize V3.heap.size = g10 at *; refine hK.out _ _ (KP.out _ st.out.1) (fun hHeld => ?_); clear hK K
              try simp only [Act.put, s1, s2, s3, s4, s5, s6]
              refine r1 8 (fun K hK => ?_)
              obtain ⟨V5, hV, ⟨k0, k1, k2⟩, ⟨f0, f1, f2⟩, h⟩ := st.out.put1; go_simp; (try rw [hV]); have S1 := hide h; clear hV k0 k1 k2 f0 f1 f2 h; refine hK.out _ _ (KP.out _ S1.out.2.1.1) (fun hHeld => ?_); clear hK K
              try simp only [Act.put, s1, s2, s3, s4, s5, s6]
              refine r1 9 (fun K hK => ?_)
              obtain ⟨V6, hV, ⟨k0, k1, k2⟩, ⟨f0, f1, f2⟩, h⟩ := S1.out.2.1.put2 S1.out.1 S1.out.2.2; go_simp; (try rw [hV]); have FN := hide h; clear hV k0 k1 k2 f0 f1 f2 h; refine hK.out _ _ (KP.out _ FN.out.below) (fun hHeld => ?_); clear hK K
              refine wpAnyH_done (by kernel_rfl) ?_ _
              go_wp2_with fail; go_meet; exact FN.out
            · go_simp; replace st := hide st.out.al2; generalize (V2.alloc fqblk) = V3 at *; generalize V2.heap.size = g10 at *; refine hK.out _ _ (KP.out _ st.out.1) (fun hHeld => ?_); clear hK K
              try simp only [Act.put, s1, s2, s3, s4, s5, s6]
              refine r1 5 (fun K hK => ?_)
              go_simp; go_at_call 16; refine (st.out.of2 VH.out).mono ?_; rintro e V4 ⟨xq, rfl, h⟩; replace st := hide h; clear h; refine hK.out _ _ (KP.out _ st.out.1) (fun hHeld => ?_); clear hK K
              try simp only [Act.put, s1, s2, s3, s4, s5, s6]
              refine r1 8 (fun K hK => ?_)
              obtain ⟨V5, hV, ⟨k0, k1, k2⟩, ⟨f0, f1, f2⟩, h⟩ := st.out.put1; go_simp; (try rw [hV]); have S1 := hide h; clear hV k0 k1 k2 f0 f1 f2 h; refine hK.out _ _ (KP.out _ S1.out.2.1.1) (fun hHeld => ?_); clear hK K
              try simp only [Act.put, s1, s2, s3, s4, s5, s6]
              refine r1 9 (fun K hK => ?_)
              obtain ⟨V6, hV, ⟨k0, k1, k2⟩, ⟨f0, f1, f2⟩, h⟩ := S1.out.2.1.put2 S1.out.1 S1.out.2.2; go_simp; (try rw [hV]); have FN := hide h; clear hV k0 k1 k2 f0 f1 f2 h; refine hK.out _ _ (KP.out _ FN.out.below) (fun hHeld => ?_); clear hK K
              refine wpAnyH_done (by kernel_rfl) ?_ _
              go_wp2_with fail; go_meet; exact FN.out
          · go_simp; replace st := hide st.out.al2; generalize (V1.alloc fqblk) = V2 at *; generalize V1.heap.size = g10 at *; refine hK.out _ _ (KP.out _ st.out.1) (fun hHeld => ?_); clear hK K
            try simp only [Act.put, s1, s2, s3, s4, s5, s6]
            refine r1 2 (fun K hK => ?_)
            go_simp; go_at_call 16; refine (st.out.of1 VL.out).mono ?_; rintro e V3 ⟨xp, rfl, h⟩; replace st := hide h; clear h; refine hK.out _ _ (KP.out _ st.out.1) (fun hHeld => ?_); clear hK K
            try simp only [Act.put, s1, s2, s3, s4, s5, s6]
            refine r1 5 (fun K hK => ?_)
            go_simp; go_at_call 16; refine (st.out.of2 VH.out).mono ?_; rintro e V4 ⟨xq, rfl, h⟩; replace st := hide h; clear h; refine hK.out _ _ (KP.out _ st.out.1) (fun hHeld => ?_); clear hK K
            try simp only [Act.put, s1, s2, s3, s4, s5, s6]
            refine r1 8 (fun K hK => ?_)
            obtain ⟨V5, hV, ⟨k0, k1, k2⟩, ⟨f0, f1, f2⟩, h⟩ := st.out.put1; go_simp; (try rw [hV]); have S1 := hide h; clear hV k0 k1 k2 f0 f1 f2 h; refine hK.out _ _ (KP.out _ S1.out.2.1.1) (fun hHeld => ?_); clear hK K
            try simp only [Act.put, s1, s2, s3, s4, s5, s6]
            refine r1 9 (fun K hK => ?_)
            obtain ⟨V6, hV, ⟨k0, k1, k2⟩, ⟨f0, f1, f2⟩, h⟩ := S1.out.2.1.put2 S1.out.1 S1.out.2.2; go_simp; (try rw [hV]); have FN := hide h; clear hV k0 k1 k2 f0 f1 f2 h; refine hK.out _ _ (KP.out _ FN.out.below) (fun hHeld => ?_); clear hK K
            refine wpAnyH_done (by kernel_rfl) ?_ _
            go_wp2_with fail; go_meet; exact FN.out
        · go_simp; replace st := hide st.out.al2; generalize (V0.alloc fqblk) = V1 at *; generalize V0.heap.size = g10 at *; refine hK.out _ _ (KP.out _ st.out.1) (fun hHeld => ?_); clear hK K
          try simp only [Act.put, s1, s2, s3, s4, s5, s6]
          refine r2 2 6 (fun K hK => ?_) (fun K hK => ?_)
          · go_simp; go_at_call 16; refine (st.out.of1 VL.out).mono ?_; rintro e V2 ⟨xp, rfl, h⟩; replace st := hide h; clear h; refine hK.out _ _ (KP.out _ st.out.1) (fun hHeld => ?_); clear hK K
            try simp only [Act.put, s1, s2, s3, s4, s5, s6]
            refine r2 5 6 (fun K hK => ?_) (fun K hK => ?_)
            · go_simp; go_at_call 16; refine (st.out.of2 VH.out).mono ?_; rintro e V3 ⟨xq, rfl, h⟩; replace st := hide h; clear h; refine hK.out _ _ (KP.out _ st.out.1) (fun hHeld => ?_); clear hK K
              try simp only [Act.put, s1, s2, s3, s4, s5, s6]
              refine r1 6 (fun K hK => ?_)
              go_simp; replace st := hide st.out.al1; generalize (V3.alloc fqblk) = V4 at *; generalize V3.heap.size = g9 at *; refine hK.out _ _ (KP.out _ st.out.1) (fun hHeld => ?_); clear hK K
              try simp only [Act.put, s1, s2, s3, s4, s5, s6]
              refine r1 8 (fun K hK => ?_)
              obtain ⟨V5, hV, ⟨k0, k1, k2⟩, ⟨f0, f1, f2⟩, h⟩ := st.out.put1; go_simp; (try rw [hV]); have S1 := hide h; clear hV k0 k1 k2 f0 f1 f2 h; refine hK.out _ _ (KP.out _ S1.out.2.1.1) (fun hHeld => ?_); clear hK K
              try simp only [Act.put, s1, s2, s3, s4, s5, s6]
              refine r1 9 (fun K hK => ?_)
              obtain ⟨V6, hV, ⟨k0, k1, k2⟩, ⟨f0, f1, f2⟩, h⟩ := S1.out.2.1.put2 S1.out.1 S1.out.2.2; go_simp; (try rw [hV]); have FN := hide h; clear hV k0 k1 k2 f0 f1 f2 h; refine hK.out _ _ (KP.out _ FN.out.below) (fun hHeld => ?_); clear hK K
              refine wpAnyH_done (by kernel_rfl) ?_ _
              go_wp2_with fail; go_meet; exact FN.out
            · go_simp; replace st := hide st.out.al1; generalize (V2.alloc fqblk) = V3 at *; generalize V2.heap.size = g9 at *; refine hK.out _ _ (KP.out _ st.out.1) (fun hHeld => ?_); clear hK K
              try simp only [Act.put, s1, s2, s3, s4, s5, s6]
              refine r1 5 (fun K hK => ?_)
              go_simp; go_at_call 16; refine (st.out.of2 VH.out).mono ?_; rintro e V4 ⟨xq, rfl, h⟩; replace st := hide h; clear h; refine hK.out _ _ (KP.out _ st.out.1) (fun hHeld => ?_); clear hK K
              try simp only [Act.put, s1, s2, s3, s4, s5, s6]
              refine r1 8 (fun K hK => ?_)
              obtain ⟨V5, hV, ⟨k0, k1, k2⟩, ⟨f0, f1, f2⟩, h⟩ := st.out.put1; go_simp; (try rw [hV]); have S1 := hide h; clear hV k0 k1 k2 f0 f1 f2 h; refine hK.out _ _ (KP.out _ S1.out.2.1.1) (fun hHeld => ?_); clear hK K
              try simp only [Act.put, s1, s2, s3, s4, s5, s6]
              refine r1 9 (fun K hK => ?_)
              obtain ⟨V6, hV, ⟨k0, k1, k2⟩, ⟨f0, f1, f2⟩, h⟩ := S1.out.2.1.put2 S1.out.1 S1.out.2.2; go_simp; (try rw [hV]); have FN := hide h; clear hV k0 k1 k2 f0 f1 f2 h; refine hK.out _ _ (KP.out _ FN.out.below) (fun hHeld => ?_); clear hK K
              refine wpAnyH_done (by kernel_rfl) ?_ _
              go_wp2_with fail; go_meet; exact FN.out
          · go_simp; replace st := hide st.out.al1; generalize (V1.alloc fqblk) = V2 at *; generalize V1.heap.size = g9 at *; refine hK.out _ _ (KP.out _ st.out.1) (fun hHeld => ?_); clear hK K
            try simp only [Act.put, s1, s2, s3, s4, s5, s6]
            refine r1 2 (fun K hK => ?_)
            go_simp; go_at_call 16; refine (st.out.of1 VL.out).mono ?_; rintro e V3 ⟨xp, rfl, h⟩; replace st := hide h; clear h; refine hK.out _ _ (KP.out _ st.out.1) (fun hHeld => ?_); clear hK K
            try simp only [Act.put, s1, s2, s3, s4, s5, s6]
            refine r1 5 (fun K hK => ?_)
            go_simp; go_at_call 16; refine (st.out.of2 VH.out).mono ?_; rintro e V4 ⟨xq, rfl, h⟩; replace st := hide h; clear h; refine hK.out _ _ (KP.out _ st.out.1) (fun hHeld => ?_); clear hK K
            try simp only [Act.put, s1, s2, s3, s4, s5, s6]
            refine r1 8 (fun K hK => ?_)
            obtain ⟨V5, hV, ⟨k0, k1, k2⟩, ⟨f0, f1, f2⟩, h⟩ := st.out.put1; go_simp; (try rw [hV]); have S1 := hide h; clear hV k0 k1 k2 f0 f1 f2 h; refine hK.out _ _ (KP.out _ S1.out.2.1.1) (fun hHeld => ?_); clear hK K
            try simp only [Act.put, s1, s2, s3, s4, s5, s6]
            refine r1 9 (fun K hK => ?_)
            obtain ⟨V6, hV, ⟨k0, k1, k2⟩, ⟨f0, f1, f2⟩, h⟩ := S1.out.2.1.put2 S1.out.1 S1.out.2.2; go_simp; (try rw [hV]); have FN := hide h; clear hV k0 k1 k2 f0 f1 f2 h; refine hK.out _ _ (KP.out _ FN.out.below) (fun hHeld => ?_); clear hK K
            refine wpAnyH_done (by kernel_rfl) ?_ _
            go_wp2_with fail; go_meet; exact FN.out
      case rest =>
        obtain ⟨g9, g10, xp, xq, rfl, rfl, f9, f10, ⟨r9, e9⟩, ⟨r10, e10⟩, bx⟩ := hcut
        have F9 := hide f9
        have F10 := hide f10
        have R9 := hide r9
        have R10 := hide r10
        have E9 := hide e9
        have E10 := hide e10
        replace P := hide (P.out.step bx); replace P2 := hide (P2.out.step bx); replace HA := hide (HA.out.step bx); replace HB := hide (HB.out.step bx); replace HU := hide (HU.out.step bx); replace B := hide (Below.step B.out B.out.size bx)
        clear f9 f10 r9 r10 e9 e10 bx Q7 Q8 VL VH
        obtain ⟨p0, p1, p2, p3, p4⟩ := P.out.all
        obtain ⟨q0, q1, q2, q3, q4⟩ := P2.out.all
        go_wp2_with fail
        refine (alike_f HA.out HB.out (by have := HN.out; omega) (by have := HM.out; omega) (by omega) (by omega) (by omega) (by omega)).mono ?_
        rintro e w1 ⟨⟨o, rfl, ho⟩, bx⟩
        have H1 := hide ho
        have PN := hide (P.out.step bx)
        replace HA := hide (HA.out.step bx)
        replace HB := hide (HB.out.step bx)
        replace HU := hide (HU.out.step bx)
        replace F9 := hide (F9.out.step bx)
        replace F10 := hide (F10.out.step bx)
        replace R9 := hide (R9.out.step bx)
        replace R10 := hide (R10.out.step bx)
        replace B := hide (Below.step B.out B.out.size bx)
        clear bx
        clear p0 p1 p2 p3 p4 q0 q1 q2 q3 q4 ho
        obtain ⟨p0, p1, p2, p3, p4⟩ := PN.out.all
        cases o
        case false =>
          go_wp2_with fail
          go_ret
          exact ⟨⟨false, rfl, by constructor <;> intro h; cases h; exact absurd (SP.out.1 h) (fun h => absurd (H1.out.2 h.1) (by simp))⟩, B.out⟩
        have A1 := hide (H1.out.1 rfl)
        clear H1
        go_wp2_with fail
        refine (vmake_fl (L := 6) HA.out.1 (by have := HN.out; omega) (by omega) (by omega)).mono ?_
        rintro e w2 ⟨vm, dm, rfl, tm, fm, gm, lm, bx⟩
        have TM := hide tm.tv
        have FM := hide fm
        have GM := hide gm
        replace HA := hide (HA.out.step bx)
        replace HB := hide (HB.out.step bx)
        replace HU := hide (HU.out.step bx)
        replace F9 := hide (F9.out.step bx)
        replace F10 := hide (F10.out.step bx)
        replace R9 := hide (R9.out.step bx)
        replace R10 := hide (R10.out.step bx)
        replace B := hide (Below.step B.out B.out.size bx)
        clear bx
        obtain ⟨A5, n5, c5, rfl⟩ := rv_sl TM.out.1
        clear p0 p1 p2 p3 p4 tm fm gm lm PN
        go_wp2_with fail
        refine (rwhole_f TM.out HU.out FM.out (by omega) (by have := Nat.mul_le_mul HN.out (show 5 * 6 + 1 ≤ 31 by omega); omega)).mono ?_
        rintro e w3 ⟨⟨o, rfl, ho⟩, bx⟩
        have H2 := hide (show o = true ↔ Whl (tms a.d) (bAt fl) by rw [ho]; exact (whl_fm FM.out GM.out (bAt fl)).symm)
        replace HA := hide (HA.out.step bx)
        replace HB := hide (HB.out.step bx)
        replace HU := hide (HU.out.step bx)
        replace F9 := hide (F9.out.step bx)
        replace F10 := hide (F10.out.step bx)
        replace R9 := hide (R9.out.step bx)
        replace R10 := hide (R10.out.step bx)
        replace B := hide (Below.step B.out B.out.size bx)
        clear bx
        clear ho TM
        obtain ⟨k0, k1, k2, -, -, -⟩ := F9.out.all
        cases o
        case false =>
          go_wp2_with fail
          go_ret
          exact ⟨⟨false, rfl, by constructor <;> intro h; cases h; exact absurd (SP.out.1 h) (fun h => absurd (H2.out.2 h.2.1) (by simp))⟩, B.out⟩
        have W1 := hide (H2.out.1 rfl)
        clear H2
        go_wp2_with fail
        refine (rqwhole_any (L := 30) R9.out (by omega)).mono ?_
        rintro e w4 ⟨rfl, bx⟩
        replace HA := hide (HA.out.step bx)
        replace HB := hide (HB.out.step bx)
        replace HU := hide (HU.out.step bx)
        replace F9 := hide (F9.out.step bx)
        replace F10 := hide (F10.out.step bx)
        replace R9 := hide (R9.out.step bx)
        replace R10 := hide (R10.out.step bx)
        replace B := hide (Below.step B.out B.out.size bx)
        clear bx
        clear k0 k1 k2
        obtain ⟨k0, k1, k2, -, -, -⟩ := F9.out.all
        obtain ⟨l0, l1, l2, -, -, -⟩ := F10.out.all
        by_cases hw : ((xp.r.floor : Int) : Rat) = xp.r
        case neg =>
          have td : decide (((xp.r.floor : Int) : Rat) = xp.r) = false := decide_eq_false hw
          have NW := hide hw
          clear hw
          rw [td]
          go_wp2_with fail
          go_ret
          exact ⟨⟨false, rfl, by constructor <;> intro h; cases h; exact absurd (SP.out.1 h) (fun h => NW.out (by rw [E9.out]; exact h.2.2.1))⟩, B.out⟩
        have td : decide (((xp.r.floor : Int) : Rat) = xp.r) = true := decide_eq_true hw
        have IW := hide hw
        clear hw
        rw [td]
        go_wp2_with fail
        refine (rqsub_k (L := 30) R10.out R9.out (by omega) (by omega)).mono ?_
        rintro e w5 ⟨y, rfl, hy, ry, bx⟩
        have HY := hide hy
        have RY := hide ry
        replace HA := hide (HA.out.step bx)
        replace F9 := hide (F9.out.step bx)
        replace F10 := hide (F10.out.step bx)
        replace B := hide (Below.step B.out B.out.size bx)
        clear bx
        clear k0 k1 k2 l0 l1 l2 hy ry
        go_wp2_with fail
        refine (rqsmall_f _ 1 (by omega) (by omega)).mono ?_
        rintro e w6 ⟨z, rfl, hz, rz, bx⟩
        have HZ := hide hz
        have RZ := hide (rz.more (show 6 ≤ 61 by omega))
        replace RY := hide (RY.out.step bx)
        replace HA := hide (HA.out.step bx)
        replace B := hide (Below.step B.out B.out.size bx)
        clear bx
        clear hz rz
        go_wp2_with fail
        refine (rqcmp_s (L := 61) RY.out RZ.out (by omega) (by omega)).mono ?_
        rintro e w7 ⟨rfl, bx⟩
        replace HA := hide (HA.out.step bx)
        replace B := hide (Below.step B.out B.out.size bx)
        clear bx
        go_wp2_with fail
        go_ret
        exact ⟨⟨_, rfl, by
          rw [beq_iff_eq, cmp_eq0, HY.out, HZ.out, SP.out, E9.out, E10.out, show (((1 : Int) : Rat)) = 1 from rfl, split_pq]
          exact ⟨fun h => ⟨A1.out, W1.out, by unfold Isw; rw [← E9.out]; exact IW.out, h⟩, fun h => h.2.2.2⟩⟩, B.out⟩
end Go.Proofs.YtfnngcaalpknlaaGreat
