
/-
 The walk of PoolOnce: true.
-/
import Derived.Test.YtofmhfbbedalbaaGreatKxPoolOnce
import Derived.Test.YtofmhfbbedalbaaGreatPl10
import Derived.Test.YtofmhfbbedalbaaGreatPl6
import Derived.Test.YtofmhfbbedalbaaGreatBundleN
import Derived.Test.YtofmhfbbedalbaaGreatKref3
import Derived.Test.YtofmhfbbedalbaaGreatKdr2
import Derived.Deep.DeepCutAuto


namespace Go.Proofs.YtofmhfbbedalbaaGreat
open Go.RowKit Go.Joins Go.Deep Go.Proofs.YtofmhfbbedalbaaGreat.Num
set_option linter.unusedVariables false
set_option linter.unusedSimpArgs false
set_option maxRecDepth 100000
def Cvd (l : List Kx) (k : Nat) (pl : List Ct) : Prop :=
 (∀ (j : Nat) c, j < k → l[j]? = some c → ∃ b y, Scl (tms c.d) c.x.r b y) ∧
 ((∀ (j : Nat) c, j < k → l[j]? = some c → c.s ≠ 3) → ∀ (j : Nat) c, j < k → l[j]? = some c → ∀ b y, Scl (tms c.d) c.x.r b y → IsS c.s → b ≠ [] → ∃ x ∈ pl, Dc x (c.s, b, y))
theorem Cvd.zero (l : List Kx) (pl : List Ct) : Cvd l 0 pl := ⟨fun j c h => by omega, fun _ j c h => by omega⟩
theorem Cvd.next {l : List Kx} {k : Nat} {pl pl' : List Ct} {c r : Kx} {b : Bool} (h : Cvd l k pl) (hc : l[k]? = some c) (hp : Pin pl) (pt : Put pl (cv r) b pl') (es : r.s = c.s) (sc : Scl (tms c.d) c.x.r (tms r.d) r.x.r) : Cvd l (k + 1) pl' := by
 have up : ∀ (j : Nat) (y : Kx), j < k + 1 → l[j]? = some y → (j < k ∨ y = c) := by
  intro j y hj hy
  by_cases e : j = k
  ·subst e
   rw [hc] at hy
   exact .inr (Option.some.inj hy).symm
  ·exact .inl (by omega)
 refine ⟨fun j y hj hy => ?_, fun hn j y hj hy b' z hs hI hb => ?_⟩
 ·rcases up j y hj hy with h1 | rfl
  ·exact h.1 j y h1 hy
  ·exact ⟨_, _, sc⟩
 ·have c3 : (cv r).1 ≠ 3 := by
   show r.s ≠ 3
   rw [es]
   exact hn k c (by omega) hc
  rcases up j y hj hy with h1 | rfl
  ·obtain ⟨x, hx, hd⟩ := h.2 (fun j c hj hc => hn j c (by omega) hc) j y h1 hy b' z hs hI hb
   exact ((pt.cov hp c3 (cs := [(y.s, b', z)]) (fun q hq => by simp at hq; subst hq; exact ⟨x, hx, hd⟩)).1 _ (by simp))
  ·obtain ⟨e1, e2⟩ := sc.unique hs
   have e3 : cv r = (y.s, b', z) := by
    show (r.s, tms r.d, r.x.r) = _
    rw [es, e1, e2]
   obtain ⟨x, hx, hd⟩ := (pt.cov hp c3 (cs := []) (fun q hq => by cases hq)).2 (by rw [e3]; exact ⟨hI, hb⟩)
   exact ⟨x, hx, by rw [← e3]; exact hd⟩
theorem Ow.cellsK {W : World} {B g n c i : Nat} {d : List Kx} {x : Kx} (h : Ow 29 ek 5 W B (.slice (some ⟨g, 0, none⟩) n c) d) (hi : d[i]? = some x) :
  W.cell? ⟨g, i * 5, none⟩ = some (.int .i64 x.s) ∧ W.cell? ⟨g, i * 5 + 1, none⟩ = some (sv x.v) ∧ W.cell? ⟨g, i * 5 + 2, none⟩ = some (.bool x.x.s) ∧ W.cell? ⟨g, i * 5 + 3, none⟩ = some (sv x.x.u) ∧ W.cell? ⟨g, i * 5 + 4, none⟩ = some (sv x.x.t) := by
 obtain ⟨b, off, e, hb, hc⟩ := (h.rl ek_len).get hi
 injection e with e
 injection e with e1 e2
 subst e1 e2
 have c0 := hc 0 _ rfl
 have c1 := hc 1 _ rfl
 have c2 := hc 2 _ rfl
 have c3 := hc 3 _ rfl
 have c4 := hc 4 _ rfl
 rw [Nat.zero_add] at c0 c1 c2 c3 c4
 exact ⟨c0, c1, c2, c3, c4⟩
theorem Ow.base {W : World} {B n c i : Nat} {A : Option Addr} {d : List Kx} {x : Kx} (h : Ow 29 ek 5 W B (.slice A n c) d) (hi : d[i]? = some x) : ∃ g, A = some ⟨g, 0, none⟩ := by
 rcases h.form with ⟨e, h⟩ | ⟨g, cap, cur, e, _⟩
 ·subst h
  simp at hi
 ·injection e with e
  exact ⟨g, e⟩
def Ndm (os : List Kx) (m : Nat) (c : Ct) : Prop := ∀ (j : Nat) x, j < m → os[j]? = some x → ¬ Dc (cv x) c
theorem Ndm.zero (os : List Kx) (c : Ct) : Ndm os 0 c := fun j x h => by omega
theorem Ndm.next {os : List Kx} {m : Nat} {c : Ct} {x : Kx} (h : Ndm os m c) (hx : os[m]? = some x) (hd : ¬ Dc (cv x) c) : Ndm os (m + 1) c := by
 intro j y hj hy
 by_cases e : j = m
 ·subst e
  rw [hx] at hy
  cases hy
  exact hd
 ·exact h j y (by omega) hy
theorem map_get {os : List Kx} {pl : List Ct} {i : Nat} {x : Kx} (h : os.map cv = pl) (hx : os[i]? = some x) : pl[i]? = some (cv x) := by
 rw [← h, List.getElem?_map, hx]
 rfl
set_option maxHeartbeats 32000000 in
theorem ponce_go (w : World) (u : Value) (l : List Kx) (hu : Kl w u l 17592186043904) :
  Calls Tryz.prog 4 #[u] w fun e w' => e = .returned (.bool true) ∧ Below w.heap.size w w' := by
 obtain ⟨LA, n, lc, rfl⟩ := rv_sl hu.1
 obtain ⟨en, em⟩ := lr_nP hu.1
 have HL := hide hu
 have LN := hide en
 clear hu en em
 go_enter Tryz.func4, Tryz.ntmps4
 go_wp2_with fail
 refine (plspeaks_true _).mono ?_
 rintro e w1 ⟨rfl, bx⟩
 have B := hide bx
 clear bx
 go_wp2_with fail
 refine (kgreat_c (HL.out.step B.out) (by omega)).mono ?_
 rintro e w2 ⟨bx, o, rfl, ho⟩
 have HO := hide ho
 replace B := hide (Below.step B.out B.out.size bx)
 clear ho bx
 cases o
 case true =>
  go_wp2_with fail
  go_ret
  exact ⟨rfl, B.out⟩
 have OA := hide (HO.out rfl)
 replace HL := hide (HL.out.tight OA.out.2)
 have ln : n ≤ 12 := by have := OA.out.1; have := LN.out; omega
 clear HO
 go_wp2_with fail
 refine (plnew_c w2 9 651).mono ?_
 rintro e w3 ⟨g, rfl, pl, bx⟩
 have PL := hide (pl.mono B.out.size)
 replace B := hide (Below.step B.out B.out.size bx)
 clear pl bx
 go_wp2_with fail
 go_loopw [25] (fun iv wr => ∃ (k : Nat) (v : Sl) (pl : List Cx), k ≤ n ∧ iv = .int .i64 (k : Int) ∧ Hid (Below w.heap.size w wr) ∧ Hid (Plo wr w.heap.size g 9 v pl 651) ∧ Hid (Pin (cvs pl)) ∧ Hid (Cvd l k (cvs pl)) ∧ Hid (pl.length ≤ k)) (fun iv _ => n - (intOf iv).toNat)
 case atStart => exact ⟨0, _, [], Nat.zero_le _, rfl, B, PL, hide Pin.nil, hide (Cvd.zero l _), hide (Nat.zero_le _)⟩
 case round =>
  clear PL B
  obtain ⟨n1, v, pl, hk, rfl, B, PL, PI, CV, PN⟩ := hrel
  by_cases hlt : n1 < n
  ·obtain ⟨c, hx⟩ := len_of (d := l) (k := n1) (by rw [← LN.out]; exact hlt)
   have HX := hide hx
   have KC := hide ((HL.out.2 c (List.mem_of_getElem? hx)).step B.out)
   have C30 := hide (show c.d.length ≤ 30 from (OA.out.2 c (List.mem_of_getElem? hx)).1)
   obtain ⟨b, off, rfl, hb, hc⟩ := (HL.out.1.step B.out).get hx
   have cc0 := hc 0 _ rfl
   have cc1 := hc 1 _ rfl
   have cc2 := hc 2 _ rfl
   have cc3 := hc 3 _ rfl
   have cc4 := hc 4 _ rfl
   rw [Nat.add_zero] at cc0
   have b8 := alloc_below wr (kbox c)
   have B2 := hide (Below.step B.out B.out.size b8)
   have PL2 := hide (PL.out.step b8)
   have CQ := hide (Kq.new wr c)
   replace KC := hide (KC.out.step b8)
   obtain ⟨d0', e1', e2', e3', e4'⟩ := CQ.out.all
   have l3 : (0 : Int) ≤ (n1 : Int) := by omega
   have l4 : (n1 : Int) < (n : Int) := by omega
   clear hx hc hb b8 B PL
   go_wp2_with fail
   clear cc0 cc1 cc2 cc3 cc4 d0' e1' e2' e3' e4'
   generalize (wr.alloc (kbox c)) = w4 at *
   generalize wr.heap.size = gx at *
   refine (pladd_c (L := 6) (N := 217) (c := c) PL2.out B2.out.size KC.out (by have := C30.out; omega) (by omega) (by
    have h1 := C30.out
    have h3 : c.d.length * (6 + 1) ≤ 30 * 7 := Nat.mul_le_mul (by omega) (by omega)
    omega) (by omega) (by omega) (by have := PN.out; omega)).mono ?_
   rintro e w5 ⟨o, v', pl', r, rfl, hpl, pt, es, sc, ll, bx⟩
   have PI2 := hide (pt.pin sc.1 PI.out)
   have CV2 := hide (CV.out.next HX.out PI.out pt es sc)
   have PN2 := hide (show pl'.length ≤ n1 + 1 by have := PN.out; omega)
   have PL3 := hide hpl
   have B3 := hide (B2.out.trans bx)
   clear hpl pt es sc ll bx
   go_wp2_with fail
   exact ⟨⟨n1 + 1, v', pl', by omega, by go_num, B3, PL3, PI2, CV2, PN2⟩, by simp [intOf]; omega⟩
  ·obtain rfl : n1 = n := by omega
   go_wp2_with fail
   refine (plcuts_c PL.out (by omega) (by omega) (by have := PN.out; omega)).mono ?_
   rintro e w9 ⟨vc, os, rfl, ho, hk9, hm, bx⟩
   obtain ⟨A9, n9, c9, rfl⟩ := rv_sl (ho.rl ek_len)
   obtain ⟨en9, -⟩ := lr_nP (ho.rl ek_len)
   have O := hide ho
   have KS := hide hk9
   have HM := hide hm
   have N9 := hide en9
   have LX := hide (show ∀ x ∈ os, x.d.length ≤ 100 from fun x hx => by
    have h1 : cv x ∈ os.map cv := List.mem_map.2 ⟨x, hx, rfl⟩
    rw [hm] at h1
    obtain ⟨a, z, hz, e⟩ := cvs_back h1
    have h2 := (PL.out.2.2.2 z (List.mem_of_getElem? hz)).2
    have h3 : tms x.d = tms z.k.d := congrArg (·.2.1) e
    have h4 := congrArg List.length h3
    rw [tms_len, tms_len] at h4
    omega)
   have n9l : n9 ≤ 12 := by
    have h1 := congrArg List.length hm
    have h2 := PN.out
    simp [cvs] at h1
    omega
   have B9 := hide (Below.step B.out B.out.size bx)
   clear ho hk9 hm en9 bx B PL PN
   go_wp2_with fail
   go_loopw [37] (fun iv wr => ∃ i : Nat, i ≤ n9 ∧ iv = .int .i64 (i : Int) ∧ Hid (Below w9.heap.size w9 wr)) (fun iv _ => n9 - (intOf iv).toNat)
   case atStart => exact ⟨0, Nat.zero_le _, rfl, hide (Below.refl _ _)⟩
   case round =>
    obtain ⟨i, hi, rfl, BC⟩ := hrel
    by_cases hlt : i < n9
    ·obtain ⟨x, hx⟩ := len_of (d := os) (k := i) (by rw [← N9.out]; exact hlt)
     obtain ⟨g9, rfl⟩ := O.out.base hx
     have HX := hide hx
     clear hx
     obtain ⟨wo, hwo⟩ : ∃ wo, wo = wr := ⟨wr, rfl⟩
     subst hwo
     go_wp2_with fail
     go_loopw [42] (fun iv wr => ∃ j : Nat, j ≤ n9 ∧ iv = .int .i64 (j : Int) ∧ Hid (Below w9.heap.size w9 wr)) (fun iv _ => n9 - (intOf iv).toNat)
     case atStart => exact ⟨0, Nat.zero_le _, rfl, BC⟩
     case round =>
      clear BC
      obtain ⟨j, hj, rfl, BD⟩ := hrel
      by_cases hlj : j < n9
      ·obtain ⟨y, hy⟩ := len_of (d := os) (k := j) (by rw [← N9.out]; exact hlj)
       have HY := hide hy
       obtain ⟨a0, a1, -, -, -⟩ := (O.out.step BD.out).cellsK HX.out
       obtain ⟨c0, c1, -, -, -⟩ := (O.out.step BD.out).cellsK hy
       have KP := hide (show ∀ V, Below wr.heap.size wr V → _ ∧ _ ∧ _ ∧ _ from fun V h => And.intro (cell_keep a0 h) (And.intro (cell_keep a1 h) (And.intro (cell_keep c0 h) (cell_keep c1 h))))
       have KX := hide ((KS.out x (List.mem_of_getElem? HX.out)).1.tc.step BD.out)
       have KY := hide ((KS.out y (List.mem_of_getElem? hy)).1.tc.step BD.out)
       have BV := hide (show Below wr.heap.size wr wr.drew from (Below.refl _ _).drew)
       have l3 : (0 : Int) ≤ (i : Int) := by omega
       have l4 : (i : Int) < (n9 : Int) := by omega
       have l5 : (0 : Int) ≤ (j : Int) := by omega
       have l6 : (j : Int) < (n9 : Int) := by omega
       clear hy a0 a1 c0 c1
       go_wp2_with fail
       by_cases hij : i = j
       ·have t1 : ((i : Int) != (j : Int)) = false := by rw [hij]; simp
        clear hij
        refine wp_region_held_drew (S := fun W => W.cell? ⟨g9, i * 5, none⟩ = some (.int .i64 x.s) ∧ W.cell? ⟨g9, i * 5 + 1, none⟩ = some (sv x.v) ∧ W.cell? ⟨g9, j * 5, none⟩ = some (.int .i64 y.s) ∧ W.cell? ⟨g9, j * 5 + 1, none⟩ = some (sv y.v)) (by kernel_rfl) ?_ (fun hHeld => ?_)
        ·try dsimp only
         exact KP.out _ BV.out
        generalize wr.drew = V0 at *
        refine tp 0 hHeld ?_
        try simp only [Act.put, s1, s2, s3, s4, s5, s6]
        refine tp 1 hHeld ?_
        try simp only [Act.put, s1, s2, s3, s4, s5, s6]
        refine tk 2 (v := ?_) hHeld ?_ ?_; rotate_left; (focus (intro w hSw; (try dsimp only at hSw); go_simp; (try with_reducible rfl)))
        try simp only [Act.put, s1, s2, s3, s4, s5, s6]
        refine tp 3 hHeld ?_
        try simp only [Act.put, s1, s2, s3, s4, s5, s6]
        refine shl [(4, some 49), (5, some 50), (6, some 51), (7, some 52)] 21 hHeld ?_
        try simp only [shL, shA, Act.put, s1, s2, s3, s4, s5, s6]
        refine shl [(8, some 53), (9, some 54), (10, some 55), (11, some 56)] 17 hHeld ?_
        try simp only [shL, shA, Act.put, s1, s2, s3, s4, s5, s6]
        refine shl [(12, some 57), (13, some 58), (14, some 59)] 14 hHeld ?_
        try simp only [shL, shA, Act.put, s1, s2, s3, s4, s5, s6]
        refine tk 15 (v := ?_) hHeld ?_ ?_; rotate_left; (focus (intro w hSw; (try dsimp only at hSw); go_simp; (try with_reducible rfl)))
        try simp only [Act.put, s1, s2, s3, s4, s5, s6]
        refine tp 16 hHeld ?_
        try simp only [Act.put, s1, s2, s3, s4, s5, s6]
        refine shl [(17, some 62), (18, some 63), (19, some 64), (20, some 65)] 8 hHeld ?_
        try simp only [shL, shA, Act.put, s1, s2, s3, s4, s5, s6]
        refine shl [(21, some 66), (22, some 67), (23, some 68), (24, some 69)] 4 hHeld ?_
        try simp only [shL, shA, Act.put, s1, s2, s3, s4, s5, s6]
        refine shl [(25, some 70), (26, some 71), (27, some 72)] 1 hHeld ?_
        try simp only [shL, shA, Act.put, s1, s2, s3, s4, s5, s6]
        refine tk 28 (v := ?_) hHeld ?_ ?_; rotate_left; (focus (intro w hSw; (try dsimp only at hSw); go_simp; (try with_reducible rfl)))
        try simp only [Act.put, s1, s2, s3, s4, s5, s6]
        refine wpAnyH_done (by kernel_rfl) ?_ _
        go_wp2_with fail
        exact ⟨⟨j + 1, by omega, by go_num, hide (Below.step BD.out BD.out.size BV.out)⟩, by simp [intOf]; omega⟩
       ·have t1 : ((i : Int) != (j : Int)) = true := by rw [bne_iff_ne]; omega
        by_cases hs : x.s = y.s
        ·have t2 : (x.s == y.s) = true := beq_iff_eq.2 hs
         have ND := hide (show ¬ tms x.d = tms y.d from fun e => hij (PI.out.2 i j _ _ (map_get HM.out HX.out) (map_get HM.out HY.out) hs e))
         clear hs hij
         refine wp_region_held_drew (S := fun W => W.cell? ⟨g9, i * 5, none⟩ = some (.int .i64 x.s) ∧ W.cell? ⟨g9, i * 5 + 1, none⟩ = some (sv x.v) ∧ W.cell? ⟨g9, j * 5, none⟩ = some (.int .i64 y.s) ∧ W.cell? ⟨g9, j * 5 + 1, none⟩ = some (sv y.v)) (by kernel_rfl) ?_ (fun hHeld => ?_)
         ·try dsimp only
          exact KP.out _ BV.out
         generalize wr.drew = V0 at *
         refine tp 0 hHeld ?_
         try simp only [Act.put, s1, s2, s3, s4, s5, s6]
         refine tp 1 hHeld ?_
         try simp only [Act.put, s1, s2, s3, s4, s5, s6]
         refine tk 2 (v := ?_) hHeld ?_ ?_; rotate_left; (focus (intro w hSw; (try dsimp only at hSw); go_simp; (try with_reducible rfl)))
         try simp only [Act.put, s1, s2, s3, s4, s5, s6]
         refine tp 3 hHeld ?_
         try simp only [Act.put, s1, s2, s3, s4, s5, s6]
         refine tp 4 hHeld ?_
         try simp only [Act.put, s1, s2, s3, s4, s5, s6]
         refine tp 5 hHeld ?_
         try simp only [Act.put, s1, s2, s3, s4, s5, s6]
         refine tk 6 (v := ?_) hHeld ?_ ?_; rotate_left; (focus (intro w hSw; (try dsimp only at hSw); go_simp; (try with_reducible rfl)))
         try simp only [Act.put, s1, s2, s3, s4, s5, s6]
         refine tk 7 (v := ?_) hHeld ?_ ?_; rotate_left; (focus (intro w hSw; (try dsimp only at hSw); go_simp; (try with_reducible rfl)))
         try simp only [Act.put, s1, s2, s3, s4, s5, s6]
         refine tk 8 (v := ?_) hHeld ?_ ?_; rotate_left; (focus (intro w hSw; (try dsimp only at hSw); go_simp; (try with_reducible rfl)))
         try simp only [Act.put, s1, s2, s3, s4, s5, s6]
         refine tp 9 hHeld ?_
         try simp only [Act.put, s1, s2, s3, s4, s5, s6]
         refine tp 10 hHeld ?_
         try simp only [Act.put, s1, s2, s3, s4, s5, s6]
         refine tk 11 (v := ?_) hHeld ?_ ?_; rotate_left; (focus (intro w hSw; (try dsimp only at hSw); go_simp; (try with_reducible rfl)))
         try simp only [Act.put, s1, s2, s3, s4, s5, s6]
         refine tk 12 (v := ?_) hHeld ?_ ?_; rotate_left; (focus (intro w hSw; (try dsimp only at hSw); go_simp; (try with_reducible rfl)))
         try simp only [Act.put, s1, s2, s3, s4, s5, s6]
         refine tk 13 (v := ?_) hHeld ?_ ?_; rotate_left; (focus (intro w hSw; (try dsimp only at hSw); go_simp; (try with_reducible rfl)))
         try simp only [Act.put, s1, s2, s3, s4, s5, s6]
         refine tk 14 (v := ?_) hHeld ?_ ?_; rotate_left; (focus (intro w hSw; (try dsimp only at hSw); go_simp; (try with_reducible rfl)))
         try simp only [Act.put, s1, s2, s3, s4, s5, s6]
         refine tk 15 (v := ?_) hHeld ?_ ?_; rotate_left; (focus (intro w hSw; (try dsimp only at hSw); go_simp; (try with_reducible rfl)))
         try simp only [Act.put, s1, s2, s3, s4, s5, s6]
         refine tp 16 hHeld ?_
         try simp only [Act.put, s1, s2, s3, s4, s5, s6]
         refine tp 17 hHeld ?_
         try simp only [Act.put, s1, s2, s3, s4, s5, s6]
         refine tp 18 hHeld ?_
         try simp only [Act.put, s1, s2, s3, s4, s5, s6]
         refine tk 19 (v := ?_) hHeld ?_ ?_; rotate_left; (focus (intro w hSw; (try dsimp only at hSw); go_simp; (try with_reducible rfl)))
         try simp only [Act.put, s1, s2, s3, s4, s5, s6]
         refine tk 20 (v := ?_) hHeld ?_ ?_; rotate_left; (focus (intro w hSw; (try dsimp only at hSw); go_simp; (try with_reducible rfl)))
         try simp only [Act.put, s1, s2, s3, s4, s5, s6]
         refine tk 21 (v := ?_) hHeld ?_ ?_; rotate_left; (focus (intro w hSw; (try dsimp only at hSw); go_simp; (try with_reducible rfl)))
         try simp only [Act.put, s1, s2, s3, s4, s5, s6]
         refine tp 22 hHeld ?_
         try simp only [Act.put, s1, s2, s3, s4, s5, s6]
         refine tp 23 hHeld ?_
         try simp only [Act.put, s1, s2, s3, s4, s5, s6]
         refine tk 24 (v := ?_) hHeld ?_ ?_; rotate_left; (focus (intro w hSw; (try dsimp only at hSw); go_simp; (try with_reducible rfl)))
         try simp only [Act.put, s1, s2, s3, s4, s5, s6]
         refine tk 25 (v := ?_) hHeld ?_ ?_; rotate_left; (focus (intro w hSw; (try dsimp only at hSw); go_simp; (try with_reducible rfl)))
         try simp only [Act.put, s1, s2, s3, s4, s5, s6]
         refine tk 26 (v := ?_) hHeld ?_ ?_; rotate_left; (focus (intro w hSw; (try dsimp only at hSw); go_simp; (try with_reducible rfl)))
         try simp only [Act.put, s1, s2, s3, s4, s5, s6]
         refine r1 27 (fun K hK => ?_)
         go_simp; go_at_call 16; refine Calls.mono (vsame_x (KX.out.step BV.out) (KY.out.step BV.out)) ?_; rintro e V1 ⟨hbr, bx⟩; obtain rfl := BRet.fa hbr ND.out; replace BV := hide (Below.step BV.out BV.out.size bx); clear hbr bx; (try dsimp only); refine hK.out _ _ ?_ (fun hHeld => ?_); (focus ((try dsimp only); exact KP.out _ BV.out)); clear hK K
         try simp only [Act.put, s1, s2, s3, s4, s5, s6]
         refine tk 28 (v := ?_) hHeld ?_ ?_; rotate_left; (focus (intro w hSw; (try dsimp only at hSw); go_simp; (try with_reducible rfl)))
         try simp only [Act.put, s1, s2, s3, s4, s5, s6]
         refine wpAnyH_done (by kernel_rfl) ?_ _
         go_wp2_with fail
         exact ⟨⟨j + 1, by omega, by go_num, hide (Below.step BD.out BD.out.size BV.out)⟩, by simp [intOf]; omega⟩
        ·have t2 : (x.s == y.s) = false := beq_eq_false_iff_ne.2 hs
         clear hs hij
         refine wp_region_held_drew (S := fun W => W.cell? ⟨g9, i * 5, none⟩ = some (.int .i64 x.s) ∧ W.cell? ⟨g9, i * 5 + 1, none⟩ = some (sv x.v) ∧ W.cell? ⟨g9, j * 5, none⟩ = some (.int .i64 y.s) ∧ W.cell? ⟨g9, j * 5 + 1, none⟩ = some (sv y.v)) (by kernel_rfl) ?_ (fun hHeld => ?_)
         ·try dsimp only
          exact KP.out _ BV.out
         generalize wr.drew = V0 at *
         refine tp 0 hHeld ?_
         try simp only [Act.put, s1, s2, s3, s4, s5, s6]
         refine tp 1 hHeld ?_
         try simp only [Act.put, s1, s2, s3, s4, s5, s6]
         refine tk 2 (v := ?_) hHeld ?_ ?_; rotate_left; (focus (intro w hSw; (try dsimp only at hSw); go_simp; (try with_reducible rfl)))
         try simp only [Act.put, s1, s2, s3, s4, s5, s6]
         refine tp 3 hHeld ?_
         try simp only [Act.put, s1, s2, s3, s4, s5, s6]
         refine tp 4 hHeld ?_
         try simp only [Act.put, s1, s2, s3, s4, s5, s6]
         refine tp 5 hHeld ?_
         try simp only [Act.put, s1, s2, s3, s4, s5, s6]
         refine tk 6 (v := ?_) hHeld ?_ ?_; rotate_left; (focus (intro w hSw; (try dsimp only at hSw); go_simp; (try with_reducible rfl)))
         try simp only [Act.put, s1, s2, s3, s4, s5, s6]
         refine tk 7 (v := ?_) hHeld ?_ ?_; rotate_left; (focus (intro w hSw; (try dsimp only at hSw); go_simp; (try with_reducible rfl)))
         try simp only [Act.put, s1, s2, s3, s4, s5, s6]
         refine tk 8 (v := ?_) hHeld ?_ ?_; rotate_left; (focus (intro w hSw; (try dsimp only at hSw); go_simp; (try with_reducible rfl)))
         try simp only [Act.put, s1, s2, s3, s4, s5, s6]
         refine tp 9 hHeld ?_
         try simp only [Act.put, s1, s2, s3, s4, s5, s6]
         refine tp 10 hHeld ?_
         try simp only [Act.put, s1, s2, s3, s4, s5, s6]
         refine tk 11 (v := ?_) hHeld ?_ ?_; rotate_left; (focus (intro w hSw; (try dsimp only at hSw); go_simp; (try with_reducible rfl)))
         try simp only [Act.put, s1, s2, s3, s4, s5, s6]
         refine tk 12 (v := ?_) hHeld ?_ ?_; rotate_left; (focus (intro w hSw; (try dsimp only at hSw); go_simp; (try with_reducible rfl)))
         try simp only [Act.put, s1, s2, s3, s4, s5, s6]
         refine tk 13 (v := ?_) hHeld ?_ ?_; rotate_left; (focus (intro w hSw; (try dsimp only at hSw); go_simp; (try with_reducible rfl)))
         try simp only [Act.put, s1, s2, s3, s4, s5, s6]
         refine tk 14 (v := ?_) hHeld ?_ ?_; rotate_left; (focus (intro w hSw; (try dsimp only at hSw); go_simp; (try with_reducible rfl)))
         try simp only [Act.put, s1, s2, s3, s4, s5, s6]
         refine tk 15 (v := ?_) hHeld ?_ ?_; rotate_left; (focus (intro w hSw; (try dsimp only at hSw); go_simp; (try with_reducible rfl)))
         try simp only [Act.put, s1, s2, s3, s4, s5, s6]
         refine tp 16 hHeld ?_
         try simp only [Act.put, s1, s2, s3, s4, s5, s6]
         refine shl [(17, some 62), (18, some 63), (19, some 64), (20, some 65)] 8 hHeld ?_
         try simp only [shL, shA, Act.put, s1, s2, s3, s4, s5, s6]
         refine shl [(21, some 66), (22, some 67), (23, some 68), (24, some 69)] 4 hHeld ?_
         try simp only [shL, shA, Act.put, s1, s2, s3, s4, s5, s6]
         refine shl [(25, some 70), (26, some 71), (27, some 72)] 1 hHeld ?_
         try simp only [shL, shA, Act.put, s1, s2, s3, s4, s5, s6]
         refine tk 28 (v := ?_) hHeld ?_ ?_; rotate_left; (focus (intro w hSw; (try dsimp only at hSw); go_simp; (try with_reducible rfl)))
         try simp only [Act.put, s1, s2, s3, s4, s5, s6]
         refine wpAnyH_done (by kernel_rfl) ?_ _
         go_wp2_with fail
         exact ⟨⟨j + 1, by omega, by go_num, hide (Below.step BD.out BD.out.size BV.out)⟩, by simp [intOf]; omega⟩
      ·obtain rfl : j = n9 := by omega
       go_wp2_with fail
       exact ⟨⟨i + 1, by omega, by go_num, BD⟩, by simp [intOf]; omega⟩
    ·obtain rfl : i = n9 := by omega
     go_wp2_with fail
     go_loopw [78] (fun iv wr => ∃ k : Nat, k ≤ n1 ∧ iv = .int .i64 (k : Int) ∧ Hid (Below w9.heap.size w9 wr) ∧ Hid (∀ (j : Nat) c, j < k → l[j]? = some c → c.s ≠ 3)) (fun iv _ => n1 - (intOf iv).toNat)
     case atStart => exact ⟨0, Nat.zero_le _, rfl, BC, hide (fun j c h => by omega)⟩
     case round =>
      clear BC
      obtain ⟨k, hk4, rfl, BC, NE⟩ := hrel
      by_cases hlt : k < n1
      ·obtain ⟨c, hx⟩ := len_of (d := l) (k := k) (by rw [← LN.out]; exact hlt)
       have HX := hide hx
       have BW := hide (Below.step B9.out B9.out.size BC.out)
       obtain ⟨b, off, rfl, hb, hc⟩ := (HL.out.1.step BW.out).get hx
       have cc0 := hc 0 _ rfl
       have cc1 := hc 1 _ rfl
       have cc2 := hc 2 _ rfl
       have cc3 := hc 3 _ rfl
       have cc4 := hc 4 _ rfl
       rw [Nat.add_zero] at cc0
       have b8 := alloc_below wr (kbox c)
       have BC2 := hide (Below.step BC.out BC.out.size b8)
       have CQ := hide (Kq.new wr c)
       obtain ⟨d0', e1', e2', e3', e4'⟩ := CQ.out.all
       have l3 : (0 : Int) ≤ (k : Int) := by omega
       have l4 : (k : Int) < (n1 : Int) := by omega
       clear hx hc hb b8 BC BW
       by_cases h3 : c.s = 3
       ·have t1 : (c.s == 3) = true := beq_iff_eq.2 h3
        clear h3
        go_wp2_with fail
        go_ret
        exact ⟨rfl, Below.step B9.out B9.out.size BC2.out⟩
       ·have t1 : (c.s == 3) = false := beq_eq_false_iff_ne.2 h3
        have NE2 := hide (show ∀ (j : Nat) c, j < k + 1 → l[j]? = some c → c.s ≠ 3 from fun j y hj hy => by
         by_cases e : j = k
         ·subst e
          rw [HX.out] at hy
          cases hy
          exact h3
         ·exact NE.out j y (by omega) hy)
        clear h3
        go_wp2_with fail
        exact ⟨⟨k + 1, by omega, by go_num, BC2, NE2⟩, by simp [intOf]; omega⟩
      ·obtain rfl : k = n1 := by omega
       have COV := hide (CV.out.2 NE.out)
       have SCX := hide CV.out.1
       clear CV NE
       go_wp2_with fail
       go_loopw [88] (fun iv wr => ∃ m : Nat, m ≤ k ∧ iv = .int .i64 (m : Int) ∧ Hid (Below w9.heap.size w9 wr)) (fun iv _ => k - (intOf iv).toNat)
       case atStart => exact ⟨0, Nat.zero_le _, rfl, BC⟩
       case round =>
        clear BC
        obtain ⟨m, hm5, rfl, BC⟩ := hrel
        by_cases hlt : m < k
        ·obtain ⟨c, hx⟩ := len_of (d := l) (k := m) (by rw [← LN.out]; exact hlt)
         have HX := hide hx
         have BW := hide (Below.step B9.out B9.out.size BC.out)
         have KC := hide ((HL.out.2 c (List.mem_of_getElem? hx)).step BW.out)
         have C30 := hide (show c.d.length ≤ 30 from (OA.out.2 c (List.mem_of_getElem? hx)).1)
         obtain ⟨sb, sy, hsc⟩ := SCX.out m c hlt hx
         have SCC := hide hsc
         have CVC := hide (COV.out m c hlt hx sb sy hsc)
         obtain ⟨b, off, rfl, hb, hc⟩ := (HL.out.1.step BW.out).get hx
         have cc0 := hc 0 _ rfl
         have cc1 := hc 1 _ rfl
         have cc2 := hc 2 _ rfl
         have cc3 := hc 3 _ rfl
         have cc4 := hc 4 _ rfl
         rw [Nat.add_zero] at cc0
         have b8 := alloc_below wr (kbox c)
         have BC2 := hide (Below.step BC.out BC.out.size b8)
         have CQ := hide (Kq.new wr c)
         replace KC := hide (KC.out.step b8)
         obtain ⟨d0', e1', e2', e3', e4'⟩ := CQ.out.all
         have l3 : (0 : Int) ≤ (m : Int) := by omega
         have l4 : (m : Int) < (k : Int) := by omega
         clear hx hsc hc hb b8 BC BW
         go_upto_region 33 with fail
         clear cc0 cc1 cc2 cc3 cc4 d0' e1' e2' e3' e4'
         generalize (wr.alloc (kbox c)) = w6 at *
         generalize wr.heap.size = gc at *
         go_cut [13] from 92 to 99 (fun s wx => ∃ o : Bool, s = .bool o ∧ (o = false → IsS c.s ∧ ¬ Bare (tms c.d)) ∧ Below w6.heap.size w6 wx)
         case first =>
          obtain ⟨d0', e1', e2', e3', e4'⟩ := CQ.out.all
          go_wp2_with fail
          refine (sense_c c.s _).mono ?_
          rintro e wy ⟨⟨o, rfl, ho⟩, hw⟩
          subst hw
          have HO := hide ho
          clear ho
          cases o
          ·go_wp2_with fail
           go_meet
           exact ⟨true, rfl, (fun h => by cases h), Below.refl _ _⟩
          ·have IS := hide (HO.out.1 (by simp))
           go_wp2_with fail
           refine (bare_f (k := c) (L := 6) KC.out (by have := C30.out; omega) (by omega) (by omega)).mono ?_
           rintro e wz ⟨⟨o, rfl, ho⟩, bx⟩
           have HB := hide ho
           have BX := hide bx
           clear ho bx HO
           cases o
           ·go_wp2_with fail
            go_meet
            exact ⟨false, rfl, (fun _ => ⟨IS.out, fun h => absurd (HB.out.2 h) (by simp)⟩), BX.out⟩
           ·go_wp2_with fail
            go_meet
            exact ⟨true, rfl, (fun h => by cases h), BX.out⟩
         case rest =>
          obtain ⟨o0, rfl, hf, bx⟩ := hcut
          have HF := hide (show o0 = false → IsS c.s ∧ ¬ Bare (tms c.d) ∧ Ndm os 0 (c.s, sb, sy) from fun h => ⟨(hf h).1, (hf h).2, Ndm.zero _ _⟩)
          replace BC2 := hide (Below.step BC2.out BC2.out.size bx)
          replace CQ := hide (CQ.out.step bx)
          replace KC := hide (KC.out.step bx)
          clear hf bx
          go_wp2_with fail
          go_loopw [13, 102] (fun ov iv wr => ∃ (q : Nat) (o : Bool), q ≤ i ∧ iv = .int .i64 (q : Int) ∧ ov = .bool o ∧ Hid (Below w9.heap.size w9 wr) ∧ Hid (Kq wr gc c) ∧ Hid (Kv wr c 6) ∧ Hid (o = false → IsS c.s ∧ ¬ Bare (tms c.d) ∧ Ndm os q (c.s, sb, sy))) (fun _ iv _ => i - (intOf iv).toNat)
          case atStart => exact ⟨0, o0, Nat.zero_le _, rfl, rfl, BC2, CQ, KC, HF⟩
          case round =>
           clear BC2 CQ KC HF
           obtain ⟨q, o, hq, rfl, rfl, BC, CQ, KC, HF⟩ := hrel
           by_cases hlq : q < i
           ·obtain ⟨x, hx⟩ := len_of (d := os) (k := q) (by rw [← N9.out]; exact hlq)
            obtain ⟨g9, rfl⟩ := O.out.base hx
            obtain ⟨cc0, cc1, cc2, cc3, cc4⟩ := (O.out.step BC.out).cellsK hx
            have HXO := hide hx
            have b8 := alloc_below wr (kbox x)
            have BC2 := hide (Below.step BC.out BC.out.size b8)
            have CX := hide (Kq.new wr x)
            have CQ2 := hide (CQ.out.step b8)
            have KC2 := hide (KC.out.step b8)
            have KX := hide ((KS.out x (List.mem_of_getElem? hx)).step BC2.out)
            have X30 := hide (show x.d.length ≤ 100 from LX.out x (List.mem_of_getElem? hx))
            have l5 : (0 : Int) ≤ (q : Int) := by omega
            have l6 : (q : Int) < (i : Int) := by omega
            clear hx b8 BC CQ KC
            go_wp2_with fail
            clear cc0 cc1 cc2 cc3 cc4
            generalize (wr.alloc (kbox x)) = w7 at *
            generalize wr.heap.size = gx at *
            have KP := hide (show ∀ V, Below w7.heap.size w7 V → _ ∧ _ from fun V h => And.intro (CX.out.step h).all (CQ2.out.step h).all)
            have BV := hide (show Below w7.heap.size w7 w7.drew from (Below.refl _ _).drew)
            cases o
            case true =>
             refine wp_region_held_drew (S := fun W => (W.cell? ⟨gx, 0, none⟩ = some (.int .i64 x.s) ∧ W.cell? ⟨gx, 1, none⟩ = some (sv x.v) ∧ W.cell? ⟨gx, 2, none⟩ = some (.bool x.x.s) ∧ W.cell? ⟨gx, 3, none⟩ = some (sv x.x.u) ∧ W.cell? ⟨gx, 4, none⟩ = some (sv x.x.t)) ∧ W.cell? ⟨gc, 0, none⟩ = some (.int .i64 c.s) ∧ W.cell? ⟨gc, 1, none⟩ = some (sv c.v) ∧ W.cell? ⟨gc, 2, none⟩ = some (.bool c.x.s) ∧ W.cell? ⟨gc, 3, none⟩ = some (sv c.x.u) ∧ W.cell? ⟨gc, 4, none⟩ = some (sv c.x.t)) (by kernel_rfl) ?_ (fun hHeld => ?_)
             ·try dsimp only
              exact KP.out _ BV.out
             generalize w7.drew = V0 at *
             refine tp 0 hHeld ?_
             try simp only [Act.put, s1, s2, s3, s4, s5, s6]
             refine tp 1 hHeld ?_
             try simp only [Act.put, s1, s2, s3, s4, s5, s6]
             refine shl [(2, some 108), (3, some 109), (4, some 110), (5, some 111)] 2 hHeld ?_
             try simp only [shL, shA, Act.put, s1, s2, s3, s4, s5, s6]
             refine tk 6 (v := ?_) hHeld ?_ ?_; rotate_left; (focus (intro w hSw; (try dsimp only at hSw); go_simp; (try with_reducible rfl)))
             try simp only [Act.put, s1, s2, s3, s4, s5, s6]
             refine tp 7 hHeld ?_
             try simp only [Act.put, s1, s2, s3, s4, s5, s6]
             refine wpAnyH_done (by kernel_rfl) ?_ _
             go_wp2_with fail
             exact ⟨⟨q + 1, true, by omega, by go_num, rfl, hide (Below.step BC2.out BC2.out.size BV.out), hide (CQ2.out.step BV.out), hide (KC2.out.step BV.out), hide (fun h => (by cases h))⟩, by simp [intOf]; omega⟩
            case false =>
             refine wp_region_held_drew (S := fun W => (W.cell? ⟨gx, 0, none⟩ = some (.int .i64 x.s) ∧ W.cell? ⟨gx, 1, none⟩ = some (sv x.v) ∧ W.cell? ⟨gx, 2, none⟩ = some (.bool x.x.s) ∧ W.cell? ⟨gx, 3, none⟩ = some (sv x.x.u) ∧ W.cell? ⟨gx, 4, none⟩ = some (sv x.x.t)) ∧ W.cell? ⟨gc, 0, none⟩ = some (.int .i64 c.s) ∧ W.cell? ⟨gc, 1, none⟩ = some (sv c.v) ∧ W.cell? ⟨gc, 2, none⟩ = some (.bool c.x.s) ∧ W.cell? ⟨gc, 3, none⟩ = some (sv c.x.u) ∧ W.cell? ⟨gc, 4, none⟩ = some (sv c.x.t)) (by kernel_rfl) ?_ (fun hHeld => ?_)
             ·try dsimp only
              exact KP.out _ BV.out
             generalize w7.drew = V0 at *
             refine tp 0 hHeld ?_
             try simp only [Act.put, s1, s2, s3, s4, s5, s6]
             refine tp 1 hHeld ?_
             try simp only [Act.put, s1, s2, s3, s4, s5, s6]
             refine tk 2 (v := ?_) hHeld ?_ ?_; rotate_left; (focus (intro w hSw; (try dsimp only at hSw); go_simp; (try with_reducible rfl)))
             try simp only [Act.put, s1, s2, s3, s4, s5, s6]
             refine tk 3 (v := ?_) hHeld ?_ ?_; rotate_left; (focus (intro w hSw; (try dsimp only at hSw); go_simp; (try with_reducible rfl)))
             try simp only [Act.put, s1, s2, s3, s4, s5, s6]
             refine r1 4 (fun K hK => ?_)
             go_simp; go_at_call 11; refine Calls.mono (rscale_g (k := c) (L := 6) (N := 966) (KC2.out.step BV.out) (by have := C30.out; omega) (by omega) (by omega) (by have h1 := C30.out; have h3 : c.d.length * (5 * 6 + 1) ≤ 30 * 31 := Nat.mul_le_mul (by omega) (by omega); omega) (by omega)) ?_; rintro e V1 ⟨t, rfl, kt, et, sct, lt, bx⟩; have KT := hide kt.kc.kv; have LT := hide (show t.d.length ≤ 30 by have := C30.out; omega); have ET := hide (show cv t = (c.s, sb, sy) by obtain ⟨f1, f2⟩ := sct.unique SCC.out; show (t.s, tms t.d, t.x.r) = _; rw [et, f1, f2]); clear kt et sct lt; replace BV := hide (Below.step BV.out BV.out.size bx); clear bx; (try dsimp only); refine hK.out _ _ ?_ (fun hHeld => ?_); (focus ((try dsimp only); exact KP.out _ BV.out)); clear hK K
             try simp only [Act.put, s1, s2, s3, s4, s5, s6]
             try simp only [Act.put, s1, s2, s3, s4, s5, s6]
             refine r1 5 (fun K hK => ?_)
             go_simp; go_at_call 19; refine Calls.mono (rdom_f (a := x) (b := t) (L := 651) (M := 9660) (KX.out.kc.kv.step BV.out) KT.out (by have := X30.out; omega) (by have := LT.out; omega) (by omega) (by omega) (by omega) (by omega)) ?_; rintro e V2 ⟨⟨o, rfl, ho⟩, bx⟩; have HD := hide (show o = true ↔ Dc (cv x) (c.s, sb, sy) by rw [← ET.out]; exact ho); clear ho KT ET LT; replace BV := hide (Below.step BV.out BV.out.size bx); clear bx; (try dsimp only); refine hK.out _ _ ?_ (fun hHeld => ?_); (focus ((try dsimp only); exact KP.out _ BV.out)); clear hK K
             try simp only [Act.put, s1, s2, s3, s4, s5, s6]
             refine tk 6 (v := ?_) hHeld ?_ ?_; rotate_left; (focus (intro w hSw; (try dsimp only at hSw); go_simp; (try with_reducible rfl)))
             try simp only [Act.put, s1, s2, s3, s4, s5, s6]
             refine tp 7 hHeld ?_
             try simp only [Act.put, s1, s2, s3, s4, s5, s6]
             refine wpAnyH_done (by kernel_rfl) ?_ _
             go_wp2_with fail
             exact ⟨⟨q + 1, o, by omega, by go_num, rfl, hide (Below.step BC2.out BC2.out.size BV.out), hide (CQ2.out.step BV.out), hide (KC2.out.step BV.out), hide (fun h => ⟨(HF.out rfl).1, (HF.out rfl).2.1, (HF.out rfl).2.2.next HXO.out (fun hd => absurd (HD.out.2 hd) (by rw [h]; simp))⟩)⟩, by simp [intOf]; omega⟩
           ·obtain rfl : q = i := by omega
            cases o
            case true =>
             go_wp2_with fail
             exact ⟨⟨m + 1, by omega, by go_num, BC⟩, by simp [intOf]; omega⟩
            case false =>
             exfalso
             obtain ⟨h1, h2, h3⟩ := HF.out rfl
             obtain ⟨y, hy, hd⟩ := CVC.out h1 (fun e => h2 (SCC.out.bare.1 e))
             rw [← HM.out] at hy
             obtain ⟨z, hz, rfl⟩ := List.mem_map.1 hy
             obtain ⟨a, ha⟩ := List.mem_iff_getElem?.1 hz
             exact h3 a z (by have := (List.getElem?_eq_some_iff.1 ha).1; have := N9.out; omega) ha hd
        ·obtain rfl : m = k := by omega
         go_wp2_with fail
         go_ret
         exact ⟨rfl, Below.step B9.out B9.out.size BC.out⟩
end Go.Proofs.YtofmhfbbedalbaaGreat
