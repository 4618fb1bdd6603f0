/-
  The walk of ZintRests: true.
-/
import Derived.Test.YtkonakjchimniaaDoorBundleE

namespace Go.Proofs.YtkonakjchimniaaDoor
open Go.RowKit Go.Proofs.YtkonakjchimniaaDoor.Num
set_option linter.unusedVariables false
set_option maxRecDepth 100000

theorem zr_spec (a b : Int) (hb : b ≠ 0) : (zr a b).natAbs < b.natAbs ∧ (zr a b ≠ 0 → zsg (zr a b) = zsg b) := by
  unfold zr zq
  by_cases h : 0 ≤ b
  · rw [if_pos h]
    have h1 := Int.emod_nonneg a hb
    have h2 := Int.emod_lt_of_pos a (show 0 < b by omega)
    have h3 := Int.emod_add_mul_ediv a b
    have h4 : b * (a / b) = a / b * b := Int.mul_comm _ _
    have e : a - a / b * b = a % b := by omega
    rw [e]
    refine ⟨by omega, fun h0 => ?_⟩
    unfold zsg
    rw [if_neg h0, if_neg hb, if_neg (by omega), if_neg (by omega)]
  · rw [if_neg h]
    have h1 := Int.emod_nonneg (-a) (show -b ≠ 0 by omega)
    have h2 := Int.emod_lt_of_pos (-a) (show 0 < -b by omega)
    have h3 := Int.emod_add_mul_ediv (-a) (-b)
    have h4 : -b * (-a / -b) = -(-a / -b * b) := by rw [Int.neg_mul, Int.mul_comm]
    have e : a - -a / -b * b = -(-a % -b) := by omega
    rw [e]
    refine ⟨by omega, fun h0 => ?_⟩
    unfold zsg
    rw [if_neg h0, if_neg hb, if_pos (by omega), if_pos (by omega)]
theorem qb_lt {a b : Int} {L : Nat} (ha : a.natAbs < Q ^ L) (hb : b.natAbs < Q ^ L) (h0 : b ≠ 0) : (zq a b * b).natAbs < Q ^ (L + 1) := by
  have h1 := (zr_spec a b h0).1
  have h2 : zq a b * b = a - zr a b := by unfold zr; omega
  have h3 : Q ^ L * 2 ≤ Q ^ L * Q := Nat.mul_le_mul_left _ Q_two
  rw [h2, Nat.pow_succ]
  omega
theorem Za.lt {w : World} {v : Value} {a : Int} {L : Nat} (h : Za w v a L) : a.natAbs < Q ^ L := by
  obtain ⟨s, u, x, _, hu, rfl⟩ := h
  rw [zi_abs]
  exact hu.lt
theorem zmul_a {w : World} {u v : Value} {a b : Int} {L M K : Nat} (hu : Za w u a L) (hv : Za w v b M) (hL : L ≤ 17592186044416) (hM : M ≤ 17592186044416) (hK : (a * b).natAbs < Q ^ K) :
    Calls Tryd.prog 37 #[u, v] w (ZRet w (a * b) K) := by
  obtain ⟨s, u, x, rfl, hu, rfl⟩ := hu
  obtain ⟨t, v, y, rfl, hv, rfl⟩ := hv
  rw [Int.natAbs_mul, zi_abs, zi_abs] at hK
  refine (zmul_any hu hv hL hM hK).mono fun e w' h => h.zret ?_
  unfold zi
  cases s <;> cases t <;> simp [Int.mul_neg, Int.neg_mul]

theorem Below.step1 {W W1 W2 : World} (h : Below W.heap.size W W1) (hb : Below W1.heap.size W1 W2) : Below W.heap.size W W2 := Below.step h h.size hb

/-- What is known in each world of this walk: the arguments, the quotient and the rest, and the blocks that hold them. -/
def RsInv (w W : World) (g : Nat) (s t sq sr : Bool) (A D E F : Option Addr) (n c m d k e l f : Nat) (a b : Int) (y z : Nat) : Prop :=
  Below w.heap.size w W ∧
  (W.cell? ⟨w.heap.size, 0, none⟩ = some (.bool s) ∧ W.cell? ⟨w.heap.size, 1, none⟩ = some (.slice A n c) ∧ W.cell? ⟨w.heap.size + 1, 0, none⟩ = some (.bool t) ∧ W.cell? ⟨w.heap.size + 1, 1, none⟩ = some (.slice D m d) ∧
    W.cell? ⟨g, 0, none⟩ = some (.bool sq) ∧ W.cell? ⟨g, 1, none⟩ = some (.slice E k e) ∧ W.cell? ⟨g + 1, 0, none⟩ = some (.bool sr) ∧ W.cell? ⟨g + 1, 1, none⟩ = some (.slice F l f)) ∧
  Za W (zv s (.slice A n c)) a 17592186043904 ∧ Za W (zv t (.slice D m d)) b 17592186043904 ∧ Za W (zv sq (.slice E k e)) (zq a b) (17592186043904 + 1) ∧ Za W (zv sr (.slice F l f)) (zr a b) (17592186043904 + 1) ∧
  Nw W (.slice D m d) y 17592186043904 ∧ Nw W (.slice F l f) z (17592186043904 + 1)
theorem RsInv.step {w W W' : World} {g : Nat} {s t sq sr : Bool} {A D E F : Option Addr} {n c m d k e l f : Nat} {a b : Int} {y z : Nat} (h : RsInv w W g s t sq sr A D E F n c m d k e l f a b y z) (hb : Below W.heap.size W W') :
    RsInv w W' g s t sq sr A D E F n c m d k e l f a b y z := by
  obtain ⟨h1, ⟨c0, c1, c2, c3, c4, c5, c6, c7⟩, z1, z2, z3, z4, n1, n2⟩ := h
  exact ⟨h1.trans (hb.mono h1.size), ⟨cell_keep c0 hb, cell_keep c1 hb, cell_keep c2 hb, cell_keep c3 hb, cell_keep c4 hb, cell_keep c5 hb, cell_keep c6 hb, cell_keep c7 hb⟩, z1.step hb, z2.step hb, z3.step hb, z4.step hb, n1.step hb, n2.step hb⟩
theorem RsInv.drew {w W : World} {g : Nat} {s t sq sr : Bool} {A D E F : Option Addr} {n c m d k e l f : Nat} {a b : Int} {y z : Nat} (h : RsInv w W g s t sq sr A D E F n c m d k e l f a b y z) : RsInv w W.drew g s t sq sr A D E F n c m d k e l f a b y z :=
  h.step (below_drewN (Below.refl _ _) 1)

set_option maxHeartbeats 16000000 in
theorem zrests_true (w : World) (s : Bool) (u : Value) (t : Bool) (v : Value) (x y : Nat) (hu : Nw w u x 17592186043904) (hv : Nw w v y 17592186043904) :
    Calls Tryd.prog 6 #[zv s u, zv t v] w fun e w' => e = .returned (.bool true) ∧ Below w.heap.size w w' := by
  obtain ⟨A, n, c, rfl⟩ := hu.slice
  obtain ⟨D, m, d, rfl⟩ := hv.slice
  obtain ⟨a, ha⟩ : ∃ a, zi s x = a := ⟨_, rfl⟩
  obtain ⟨b, hb⟩ : ∃ b, zi t y = b := ⟨_, rfl⟩
  have hby : b.natAbs = y := by rw [← hb, zi_abs]
  obtain ⟨b2, y1, y2⟩ := box2 w s t A D n c m d
  have za : Za w (zv s (.slice A n c)) a 17592186043904 := ha ▸ Za.of hu
  have zb : Za w (zv t (.slice D m d)) b 17592186043904 := hb ▸ Za.of hv
  have ZA := hide (za.step b2)
  have ZB := hide (zb.step b2)
  have NB := hide (hv.step b2)
  have B := hide b2
  have Y1 := hide y1
  have Y2 := hide y2
  clear hu hv ha hb za zb b2 y1 y2
  by_cases h0 : b = 0
  · subst h0
    go_enter Tryd.func6, Tryd.ntmps6
    go_wp2_with fail
    refine (zspeaks_true _).mono ?_
    rintro e w1 ⟨rfl, b1⟩
    have ZA := hide (ZA.out.step b1)
    have ZB := hide (ZB.out.step b1)
    have B := hide (Below.step B.out B.out.size b1)
    have p0 := (Y1.out.step b1).1
    have p1 := (Y1.out.step b1).2
    have p2 := (Y2.out.step b1).1
    have p3 := (Y2.out.step b1).2
    clear b1 Y1 Y2
    go_wp2_with fail
    refine (zdiv_zero ZA.out ZB.out (by omega)).mono ?_
    rintro e w3 ⟨rfl, b3⟩
    obtain ⟨b4, -, -⟩ := box2 w3 false false none none 0 0 0 0
    have b4' := Below.step b3 b3.size b4
    have ZB := hide (ZB.out.step b4')
    have B := hide (Below.step B.out B.out.size b4')
    have p2 := cell_keep p2 b4'
    have p3 := cell_keep p3 b4'
    clear b3 b4 b4' p0 p1 ZA
    go_wp2_with fail
    refine (zsign_a ZB.out (by omega)).mono ?_
    rintro e w5 ⟨rfl, b5⟩
    have B := hide (Below.step B.out B.out.size b5)
    clear b5
    go_wp2_with fail
    go_ret
    exact ⟨rfl, B.out⟩
  · obtain ⟨hr1, hr2⟩ := zr_spec a b h0
    have hab := ZA.out.lt
    have hbb := ZB.out.lt
    have hqb := hide (qb_lt hab hbb h0)
    have hsum : Hid (zq a b * b + zr a b = a) := hide (by unfold zr; omega)
    have hcz : Hid (cmpZ a a = 0) := hide (by unfold cmpZ; rw [if_neg (by omega), if_neg (by omega)])
    have hnear : Hid (cmpZ ((zr a b).natAbs : Int) (y : Int) = -1) := hide (by unfold cmpZ; rw [if_pos (by omega)])
    have HR2 := hide hr2
    have H0 := hide h0
    clear hab hbb hr1 hr2 h0 hby
    go_enter Tryd.func6, Tryd.ntmps6
    go_wp2_with fail
    refine (zspeaks_true _).mono ?_
    rintro e w1 ⟨rfl, b1⟩
    have ZA := hide (ZA.out.step b1)
    have ZB := hide (ZB.out.step b1)
    have NB := hide (NB.out.step b1)
    have B := hide (Below.step B.out B.out.size b1)
    have p0 := (Y1.out.step b1).1
    have p1 := (Y1.out.step b1).2
    have p2 := (Y2.out.step b1).1
    have p3 := (Y2.out.step b1).2
    clear b1 Y1 Y2
    go_wp2_with fail
    refine (zdiv_any (K := 17592186043904) ZA.out ZB.out H0.out (by omega) (by omega) (by omega)).mono ?_
    rintro e w3 ⟨q, r, rfl, hq, hr, b3⟩
    obtain ⟨E, k, e, rfl, -⟩ := hq.lw (by omega)
    obtain ⟨F, l, f, rfl, hrn⟩ := hr.lw (by omega)
    obtain ⟨sq, hsq⟩ : ∃ sq, decide (zq a b < 0) = sq := ⟨_, rfl⟩
    obtain ⟨sr, hsr⟩ : ∃ sr, decide (zr a b < 0) = sr := ⟨_, rfl⟩
    rw [hsq] at hq
    rw [hsr] at hr
    rw [hsq, hsr]
    obtain ⟨b4, y3, y4⟩ := box2 w3 sq sr E F k e l f
    have b4' := Below.step b3 b3.size b4
    have inv : RsInv w ((w3.alloc (zbox sq (.slice E k e))).alloc (zbox sr (.slice F l f))) w3.heap.size s t sq sr A D E F n c m d k e l f a b y (zr a b).natAbs :=
      ⟨Below.step B.out B.out.size b4', ⟨cell_keep p0 b4', cell_keep p1 b4', cell_keep p2 b4', cell_keep p3 b4', y3.1, y3.2, y4.1, y4.2⟩, ZA.out.step b4', ZB.out.step b4', hq.za.step b4, hr.za.step b4, NB.out.step b4', hrn.step b4⟩
    have I := hide inv
    clear inv b4 b4' y3 y4 p0 p1 p2 p3 ZA ZB NB B hq hr hrn b3 hsq hsr
    go_wp2_with fail
    generalize (w3.alloc (.cells #[.bool sq, .slice E k e] 39)).alloc (.cells #[.bool sr, .slice F l f] 39) = w4 at *
    generalize w3.heap.size = g at *
    have hcase : (zsg (zr a b) = 0) ∨ (∃ o, Hid (zsg (zr a b) = o) ∧ Hid (zsg b = o) ∧ ((o != 0) = true) ∧ ((o != o) = false)) := by
      by_cases h : zr a b = 0
      · left; rw [h]; rfl
      · right
        refine ⟨zsg b, hide (HR2.out h), hide rfl, ?_, ?_⟩
        · rw [bne_iff_ne]; unfold zsg; rw [if_neg H0.out]; split <;> omega
        · simp
    rcases hcase with hs0 | ⟨o, hs1, hs2, ho1, ho2⟩
    · clear HR2
      obtain ⟨bel, ⟨p0, p1, p2, p3, p4, p5, p6, p7⟩, za, zb, zq_, zr_, nb, nr⟩ := I.out.drew
      go_region_with (first
            | (go_at_call 33; refine Calls.mono (zsign_a (a := zr a b) (L := (17592186043904 + 1)) ?_ (by omega)) ?_; (focus ((repeat (first | (with_reducible assumption) | (with_reducible refine Za.step ?_ (by with_reducible assumption)))); done)); rw [hs0]; rintro e wx ⟨rfl, bx⟩))
      all_goals
        simp only [Act.put, List.setIfInBounds_toArray, List.set_cons_zero, List.set_cons_succ, List.getElem_toArray, List.getElem_cons_zero, List.getElem_cons_succ]
        have st : Below w4.drew.heap.size w4.drew wx := by
          (repeat (first | (with_reducible assumption) | (with_reducible refine Below.step1 ?_ (by with_reducible assumption))))
        have I := hide (I.out.drew.step st)
        clear st bel p0 p1 p2 p3 p4 p5 p6 p7 za zb zq_ zr_ nb nr
        generalize wx = w6 at *
        clear bx
        go_wp2_with fail
        obtain ⟨bel, ⟨p0, p1, p2, p3, p4, p5, p6, p7⟩, za, zb, zq_, zr_, nb, nr⟩ := I.out.drew
        go_region_held3 (fun W => W.cell? ⟨w.heap.size, 0, none⟩ = some (.bool s) ∧ W.cell? ⟨w.heap.size, 1, none⟩ = some (.slice A n c) ∧ W.cell? ⟨w.heap.size + 1, 0, none⟩ = some (.bool t) ∧ W.cell? ⟨w.heap.size + 1, 1, none⟩ = some (.slice D m d) ∧ W.cell? ⟨g, 0, none⟩ = some (.bool sq) ∧ W.cell? ⟨g, 1, none⟩ = some (.slice E k e) ∧ W.cell? ⟨g + 1, 0, none⟩ = some (.bool sr) ∧ W.cell? ⟨g + 1, 1, none⟩ = some (.slice F l f))
          (first | with_reducible exact ⟨p0, p1, p2, p3, p4, p5, p6, p7⟩ | (refine ⟨?_, ?_, ?_, ?_, ?_, ?_, ?_, ?_⟩ <;> (repeat (first | (with_reducible assumption) | (with_reducible refine cell_keep ?_ (by with_reducible assumption))))))
          (first
              | (go_at_call 35; refine Calls.mono (make_any (s := false) (x := (zr a b).natAbs) (L := (17592186043904 + 1)) ?_ (by omega)) ?_; (focus ((repeat (first | (with_reducible assumption) | (with_reducible refine Nw.step ?_ (by with_reducible assumption)))); done)); rintro e wx ⟨vx, rfl, tx, bx⟩; replace tx := Zi.za (Zc.zi tx (show zi false ((zr a b).natAbs) = (((zr a b).natAbs : Nat) : Int) from rfl)))
              | (go_at_call 35; refine Calls.mono (make_any (s := false) (x := y) (L := 17592186043904) ?_ (by omega)) ?_; (focus ((repeat (first | (with_reducible assumption) | (with_reducible refine Nw.step ?_ (by with_reducible assumption)))); done)); rintro e wx ⟨vx, rfl, tx, bx⟩; replace tx := Zi.za (Zc.zi tx (show zi false (y) = ((y : Nat) : Int) from rfl)))
              | (go_at_call 34; refine Calls.mono (zcmp_any (a := ((zr a b).natAbs : Int)) (b := (y : Int)) (L := (17592186043904 + 1)) (M := 17592186043904) ?_ ?_ (by omega) (by omega)) ?_; (focus ((repeat (first | (with_reducible assumption) | (with_reducible refine Za.step ?_ (by with_reducible assumption)))); done)); (focus ((repeat (first | (with_reducible assumption) | (with_reducible refine Za.step ?_ (by with_reducible assumption)))); done)); rw [hnear.out]; rintro e wx ⟨rfl, bx⟩))
        all_goals
          have st : Below w6.drew.heap.size w6.drew wx := by
            (repeat (first | (with_reducible assumption) | (with_reducible refine Below.step1 ?_ (by with_reducible assumption))))
          have I := hide (I.out.drew.step st)
          clear st bel p0 p1 p2 p3 p4 p5 p6 p7 za zb zq_ zr_ nb nr
          generalize wx = w7 at *
          go_wp2_with fail
          obtain ⟨bel, ⟨p0, p1, p2, p3, p4, p5, p6, p7⟩, za, zb, zq_, zr_, nb, nr⟩ := I.out.drew
          go_region_held3 (fun W => W.cell? ⟨w.heap.size, 0, none⟩ = some (.bool s) ∧ W.cell? ⟨w.heap.size, 1, none⟩ = some (.slice A n c) ∧ W.cell? ⟨w.heap.size + 1, 0, none⟩ = some (.bool t) ∧ W.cell? ⟨w.heap.size + 1, 1, none⟩ = some (.slice D m d) ∧ W.cell? ⟨g, 0, none⟩ = some (.bool sq) ∧ W.cell? ⟨g, 1, none⟩ = some (.slice E k e) ∧ W.cell? ⟨g + 1, 0, none⟩ = some (.bool sr) ∧ W.cell? ⟨g + 1, 1, none⟩ = some (.slice F l f))
            (first | with_reducible exact ⟨p0, p1, p2, p3, p4, p5, p6, p7⟩ | (refine ⟨?_, ?_, ?_, ?_, ?_, ?_, ?_, ?_⟩ <;> (repeat (first | (with_reducible assumption) | (with_reducible refine cell_keep ?_ (by with_reducible assumption))))))
            (first
                | (go_at_call 37; refine Calls.mono (zmul_a (a := zq a b) (b := b) (L := (17592186043904 + 1)) (M := 17592186043904) (K := (17592186043904 + 1)) ?_ ?_ (by omega) (by omega) hqb.out) ?_; (focus ((repeat (first | (with_reducible assumption) | (with_reducible refine Za.step ?_ (by with_reducible assumption)))); done)); (focus ((repeat (first | (with_reducible assumption) | (with_reducible refine Za.step ?_ (by with_reducible assumption)))); done)); rintro e wx ⟨vx, rfl, tx, bx⟩; replace tx := Zi.za tx)
                | (go_at_call 36; refine Calls.mono (zadd_any (a := zq a b * b) (b := zr a b) (L := (17592186043904 + 1)) (M := (17592186043904 + 1)) (K := (17592186043904 + 1)) ?_ ?_ (by omega) (by omega) (by omega)) ?_; (focus ((repeat (first | (with_reducible assumption) | (with_reducible refine Za.step ?_ (by with_reducible assumption)))); done)); (focus ((repeat (first | (with_reducible assumption) | (with_reducible refine Za.step ?_ (by with_reducible assumption)))); done)); rintro e wx ⟨vx, rfl, tx, bx⟩; replace tx := Zi.za tx; rw [hsum.out] at tx)
                | (go_at_call 34; refine Calls.mono (zcmp_any (a := a) (b := a) (L := (17592186043904 + 1) + 1) (M := 17592186043904) ?_ ?_ (by omega) (by omega)) ?_; (focus ((repeat (first | (with_reducible assumption) | (with_reducible refine Za.step ?_ (by with_reducible assumption)))); done)); (focus ((repeat (first | (with_reducible assumption) | (with_reducible refine Za.step ?_ (by with_reducible assumption)))); done)); rw [hcz.out]; rintro e wx ⟨rfl, bx⟩))
          all_goals
            have st : Below w7.drew.heap.size w7.drew wx := by
              (repeat (first | (with_reducible assumption) | (with_reducible refine Below.step1 ?_ (by with_reducible assumption))))
            have I := hide (I.out.drew.step st)
            clear st bel p0 p1 p2 p3 p4 p5 p6 p7 za zb zq_ zr_ nb nr
            have Fin := hide I.out.1
            clear I
            go_wp2_with fail
            go_ret
            exact ⟨rfl, Fin.out⟩
    · clear HR2
      obtain ⟨bel, ⟨p0, p1, p2, p3, p4, p5, p6, p7⟩, za, zb, zq_, zr_, nb, nr⟩ := I.out.drew
      go_region_held3 (fun W => W.cell? ⟨w.heap.size, 0, none⟩ = some (.bool s) ∧ W.cell? ⟨w.heap.size, 1, none⟩ = some (.slice A n c) ∧ W.cell? ⟨w.heap.size + 1, 0, none⟩ = some (.bool t) ∧ W.cell? ⟨w.heap.size + 1, 1, none⟩ = some (.slice D m d) ∧ W.cell? ⟨g, 0, none⟩ = some (.bool sq) ∧ W.cell? ⟨g, 1, none⟩ = some (.slice E k e) ∧ W.cell? ⟨g + 1, 0, none⟩ = some (.bool sr) ∧ W.cell? ⟨g + 1, 1, none⟩ = some (.slice F l f))
        (first | with_reducible exact ⟨p0, p1, p2, p3, p4, p5, p6, p7⟩ | (refine ⟨?_, ?_, ?_, ?_, ?_, ?_, ?_, ?_⟩ <;> (repeat (first | (with_reducible assumption) | (with_reducible refine cell_keep ?_ (by with_reducible assumption))))))
        (first
            | (go_at_call 33; refine Calls.mono (zsign_a (a := zr a b) (L := (17592186043904 + 1)) ?_ (by omega)) ?_; (focus ((repeat (first | (with_reducible assumption) | (with_reducible refine Za.step ?_ (by with_reducible assumption)))); done)); rw [hs1.out]; rintro e wx ⟨rfl, bx⟩)
            | (go_at_call 33; refine Calls.mono (zsign_a (a := b) (L := 17592186043904) ?_ (by omega)) ?_; (focus ((repeat (first | (with_reducible assumption) | (with_reducible refine Za.step ?_ (by with_reducible assumption)))); done)); rw [hs2.out]; rintro e wx ⟨rfl, bx⟩))
      all_goals
        have st : Below w4.drew.heap.size w4.drew wx := by
          (repeat (first | (with_reducible assumption) | (with_reducible refine Below.step1 ?_ (by with_reducible assumption))))
        have I := hide (I.out.drew.step st)
        clear st bel p0 p1 p2 p3 p4 p5 p6 p7 za zb zq_ zr_ nb nr
        generalize wx = w6 at *
        clear bx
        go_wp2_with fail
        obtain ⟨bel, ⟨p0, p1, p2, p3, p4, p5, p6, p7⟩, za, zb, zq_, zr_, nb, nr⟩ := I.out.drew
        go_region_held3 (fun W => W.cell? ⟨w.heap.size, 0, none⟩ = some (.bool s) ∧ W.cell? ⟨w.heap.size, 1, none⟩ = some (.slice A n c) ∧ W.cell? ⟨w.heap.size + 1, 0, none⟩ = some (.bool t) ∧ W.cell? ⟨w.heap.size + 1, 1, none⟩ = some (.slice D m d) ∧ W.cell? ⟨g, 0, none⟩ = some (.bool sq) ∧ W.cell? ⟨g, 1, none⟩ = some (.slice E k e) ∧ W.cell? ⟨g + 1, 0, none⟩ = some (.bool sr) ∧ W.cell? ⟨g + 1, 1, none⟩ = some (.slice F l f))
          (first | with_reducible exact ⟨p0, p1, p2, p3, p4, p5, p6, p7⟩ | (refine ⟨?_, ?_, ?_, ?_, ?_, ?_, ?_, ?_⟩ <;> (repeat (first | (with_reducible assumption) | (with_reducible refine cell_keep ?_ (by with_reducible assumption))))))
          (first
              | (go_at_call 35; refine Calls.mono (make_any (s := false) (x := (zr a b).natAbs) (L := (17592186043904 + 1)) ?_ (by omega)) ?_; (focus ((repeat (first | (with_reducible assumption) | (with_reducible refine Nw.step ?_ (by with_reducible assumption)))); done)); rintro e wx ⟨vx, rfl, tx, bx⟩; replace tx := Zi.za (Zc.zi tx (show zi false ((zr a b).natAbs) = (((zr a b).natAbs : Nat) : Int) from rfl)))
              | (go_at_call 35; refine Calls.mono (make_any (s := false) (x := y) (L := 17592186043904) ?_ (by omega)) ?_; (focus ((repeat (first | (with_reducible assumption) | (with_reducible refine Nw.step ?_ (by with_reducible assumption)))); done)); rintro e wx ⟨vx, rfl, tx, bx⟩; replace tx := Zi.za (Zc.zi tx (show zi false (y) = ((y : Nat) : Int) from rfl)))
              | (go_at_call 34; refine Calls.mono (zcmp_any (a := ((zr a b).natAbs : Int)) (b := (y : Int)) (L := (17592186043904 + 1)) (M := 17592186043904) ?_ ?_ (by omega) (by omega)) ?_; (focus ((repeat (first | (with_reducible assumption) | (with_reducible refine Za.step ?_ (by with_reducible assumption)))); done)); (focus ((repeat (first | (with_reducible assumption) | (with_reducible refine Za.step ?_ (by with_reducible assumption)))); done)); rw [hnear.out]; rintro e wx ⟨rfl, bx⟩))
        all_goals
          have st : Below w6.drew.heap.size w6.drew wx := by
            (repeat (first | (with_reducible assumption) | (with_reducible refine Below.step1 ?_ (by with_reducible assumption))))
          have I := hide (I.out.drew.step st)
          clear st bel p0 p1 p2 p3 p4 p5 p6 p7 za zb zq_ zr_ nb nr
          generalize wx = w7 at *
          go_wp2_with fail
          obtain ⟨bel, ⟨p0, p1, p2, p3, p4, p5, p6, p7⟩, za, zb, zq_, zr_, nb, nr⟩ := I.out.drew
          go_region_held3 (fun W => W.cell? ⟨w.heap.size, 0, none⟩ = some (.bool s) ∧ W.cell? ⟨w.heap.size, 1, none⟩ = some (.slice A n c) ∧ W.cell? ⟨w.heap.size + 1, 0, none⟩ = some (.bool t) ∧ W.cell? ⟨w.heap.size + 1, 1, none⟩ = some (.slice D m d) ∧ W.cell? ⟨g, 0, none⟩ = some (.bool sq) ∧ W.cell? ⟨g, 1, none⟩ = some (.slice E k e) ∧ W.cell? ⟨g + 1, 0, none⟩ = some (.bool sr) ∧ W.cell? ⟨g + 1, 1, none⟩ = some (.slice F l f))
            (first | with_reducible exact ⟨p0, p1, p2, p3, p4, p5, p6, p7⟩ | (refine ⟨?_, ?_, ?_, ?_, ?_, ?_, ?_, ?_⟩ <;> (repeat (first | (with_reducible assumption) | (with_reducible refine cell_keep ?_ (by with_reducible assumption))))))
            (first
                | (go_at_call 37; refine Calls.mono (zmul_a (a := zq a b) (b := b) (L := (17592186043904 + 1)) (M := 17592186043904) (K := (17592186043904 + 1)) ?_ ?_ (by omega) (by omega) hqb.out) ?_; (focus ((repeat (first | (with_reducible assumption) | (with_reducible refine Za.step ?_ (by with_reducible assumption)))); done)); (focus ((repeat (first | (with_reducible assumption) | (with_reducible refine Za.step ?_ (by with_reducible assumption)))); done)); rintro e wx ⟨vx, rfl, tx, bx⟩; replace tx := Zi.za tx)
                | (go_at_call 36; refine Calls.mono (zadd_any (a := zq a b * b) (b := zr a b) (L := (17592186043904 + 1)) (M := (17592186043904 + 1)) (K := (17592186043904 + 1)) ?_ ?_ (by omega) (by omega) (by omega)) ?_; (focus ((repeat (first | (with_reducible assumption) | (with_reducible refine Za.step ?_ (by with_reducible assumption)))); done)); (focus ((repeat (first | (with_reducible assumption) | (with_reducible refine Za.step ?_ (by with_reducible assumption)))); done)); rintro e wx ⟨vx, rfl, tx, bx⟩; replace tx := Zi.za tx; rw [hsum.out] at tx)
                | (go_at_call 34; refine Calls.mono (zcmp_any (a := a) (b := a) (L := (17592186043904 + 1) + 1) (M := 17592186043904) ?_ ?_ (by omega) (by omega)) ?_; (focus ((repeat (first | (with_reducible assumption) | (with_reducible refine Za.step ?_ (by with_reducible assumption)))); done)); (focus ((repeat (first | (with_reducible assumption) | (with_reducible refine Za.step ?_ (by with_reducible assumption)))); done)); rw [hcz.out]; rintro e wx ⟨rfl, bx⟩))
          all_goals
            have st : Below w7.drew.heap.size w7.drew wx := by
              (repeat (first | (with_reducible assumption) | (with_reducible refine Below.step1 ?_ (by with_reducible assumption))))
            have I := hide (I.out.drew.step st)
            clear st bel p0 p1 p2 p3 p4 p5 p6 p7 za zb zq_ zr_ nb nr
            have Fin := hide I.out.1
            clear I
            go_wp2_with fail
            go_ret
            exact ⟨rfl, Fin.out⟩
end Go.Proofs.YtkonakjchimniaaDoor
