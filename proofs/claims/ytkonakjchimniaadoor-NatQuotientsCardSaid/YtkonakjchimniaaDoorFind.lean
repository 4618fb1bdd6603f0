/-
  nat.findLeap: what it finds is right.
-/
import Derived.Test.YtkonakjchimniaaDoorApply
import Derived.Test.YtkonakjchimniaaDoorWin
import Derived.BigRegion
namespace Go.Proofs.YtkonakjchimniaaDoor
open Go.RowKit Go.Proofs.YtkonakjchimniaaDoor.Num
set_option linter.unusedVariables false
set_option maxRecDepth 100000

theorem lret {fn : Func} {p : Tmp} (h : fn.results = #[.cell p 81]) (tmps : Array Value) (w : World) (g : Nat) (cs : Array Value) (hs : cs.size = 5)
    (hp : tmps.getD p undef = .pointer (some ⟨g, 0, none⟩)) (hg : w.heap[g]? = some (.cells cs 81 (0, 0))) : (results fn tmps).run Tryd.prog w = .ok (.agg cs) w :=
  results_cell_row h tmps w g 81 cs (0, 0) _ hp hg Tryd.underlying81 rfl (by rw [hs]; kernel_rfl)

theorem win_lt {n h m s : Nat} {xs : List Nat} (dx : Dg Q xs) (hl : xs.length ≤ n + 2) (hh : xs.getD (n + 1) 0 = h) (hm : xs.getD n 0 = m) (hs : s ≤ 63) (hlt : h * 2 ^ s < Q) :
    vl Q xs / (Q ^ n * 2 ^ (64 - s)) < Q := by
  rw [win_eq dx hl hh hm hs]
  have bm : m < Q := by rw [← hm]; exact dx.getD Q_pos n
  have h1 := (up_word h _ s hs (carry_lt m s hs bm)).2
  rwa [Nat.mod_eq_of_lt hlt] at h1

abbrev lnil : Obj := .cells #[.bool false, .int .u64 0, .int .u64 0, .int .u64 0, .int .u64 0] 81
/-- What findLeap leaves. -/
def FlRet (w : World) (U V : Nat) (e : Ending) (w' : World) : Prop :=
  ∃ (odd : Bool) (p0 p1 q0 q1 : Nat), e = .returned (lv odd p0 p1 q0 q1) ∧ p0 < Q ∧ p1 < Q ∧ q0 < Q ∧ q1 < Q ∧
    (p1 ≠ 0 → ∃ A B : Nat, Nat.gcd A B = Nat.gcd U V ∧ B ≤ A ∧ A ≤ U ∧ A + B < U + V ∧
      (odd = false → p0 * U = p1 * V + A ∧ q1 * V = q0 * U + B) ∧ (odd = true → p1 * V = p0 * U + A ∧ q0 * U = q1 * V + B)) ∧ Below w.heap.size w w'

def FlRel (w : World) (U V x0 y0 : Nat) (xv yv : Value) (wr : World) : Prop :=
  ∃ (odd : Bool) (p0 p1 q0 q1 x y : Nat), xv = .int .u64 (x : Int) ∧ yv = .int .u64 (y : Int) ∧ x < Q ∧ y < Q ∧ p0 < Q ∧ p1 < Q ∧ q0 < Q ∧ q1 < Q ∧ Hid (LInv U V x0 y0 odd p0 p1 q0 q1 x y) ∧
    wr.heap[w.heap.size + 1]? = some (lblk odd p0 p1 q0 q1) ∧ wr.heap[w.heap.size]? = some lnil ∧ Below w.heap.size w wr

/-- The last step: the leap goes into the result's block. -/
theorem fl_out {w wr : World} {U V x0 y0 M p0 p1 q0 q1 x y : Nat} {odd : Bool} (hi : LInv U V x0 y0 odd p0 p1 q0 q1 x y) (hx0 : U / M = x0) (hy0 : V / M = y0) (hM : 0 < M) (hU : 0 < U)
    (h0 : p0 < Q) (h1 : p1 < Q) (h2 : q0 < Q) (h3 : q1 < Q) (hg : wr.heap[w.heap.size]? = some lnil) (hb : Below w.heap.size w wr) :
    (((((wr.setCell ⟨w.heap.size, 0, none⟩ (.bool odd)).setCell ⟨w.heap.size, 1, none⟩ (.int .u64 (p0 : Int))).setCell ⟨w.heap.size, 2, none⟩ (.int .u64 (p1 : Int))).setCell ⟨w.heap.size, 3, none⟩ (.int .u64 (q0 : Int))).setCell ⟨w.heap.size, 4, none⟩ (.int .u64 (q1 : Int))).heap[w.heap.size]? = some (lblk odd p0 p1 q0 q1) ∧
    FlRet w U V (.returned (lv odd p0 p1 q0 q1)) (((((wr.setCell ⟨w.heap.size, 0, none⟩ (.bool odd)).setCell ⟨w.heap.size, 1, none⟩ (.int .u64 (p0 : Int))).setCell ⟨w.heap.size, 2, none⟩ (.int .u64 (p1 : Int))).setCell ⟨w.heap.size, 3, none⟩ (.int .u64 (q0 : Int))).setCell ⟨w.heap.size, 4, none⟩ (.int .u64 (q1 : Int))) := by
  refine ⟨?_, odd, p0, p1, q0, q1, rfl, h0, h1, h2, h3, fun hp => ?_, ?_⟩
  · exact heap_setCell_same _ _ 4 _ _ _ (heap_setCell_same _ _ 3 _ _ _ (heap_setCell_same _ _ 2 _ _ _ (heap_setCell_same _ _ 1 _ _ _ (heap_setCell_same _ _ 0 _ _ _ hg))))
  · refine hi.leap (P := M) (u := U % M) (v := V % M) hp ?_ ?_ (Nat.mod_lt _ hM) (Nat.mod_lt _ hM) hU
    · rw [← hx0, Nat.mul_comm]; exact (Nat.div_add_mod U M).symm
    · rw [← hy0, Nat.mul_comm]; exact (Nat.div_add_mod V M).symm
  · exact ((((hb.setCell (Nat.le_refl _) _).setCell (Nat.le_refl _) _).setCell (Nat.le_refl _) _).setCell (Nat.le_refl _) _).setCell (Nat.le_refl _) _

/-- A step of Euclid's, laid into the leap's block. -/
theorem fl_next {w W : World} {U V x0 y0 p0 p1 q0 q1 n0 n1 y r : Nat} {odd : Bool} {o : Obj} (hi : LInv U V x0 y0 (!odd) q0 q1 n0 n1 y r) (hy : y < Q) (hr : r < Q) (h2 : q0 < Q) (h3 : q1 < Q) (h0 : n0 < Q) (h1 : n1 < Q)
    (hl : W.heap[w.heap.size + 1]? = some (lblk odd p0 p1 q0 q1)) (hg : W.heap[w.heap.size]? = some lnil) (hb : Below w.heap.size w W) :
    FlRel w U V x0 y0 (.int .u64 (y : Int)) (.int .u64 (r : Int)) ((((((W.setCell ⟨w.heap.size + 1, 1, none⟩ (.int .u64 (q0 : Int))).setCell ⟨w.heap.size + 1, 2, none⟩ (.int .u64 (q1 : Int))).setCell ⟨w.heap.size + 1, 3, none⟩ (.int .u64 (n0 : Int))).setCell ⟨w.heap.size + 1, 4, none⟩ (.int .u64 (n1 : Int))).setCell ⟨w.heap.size + 1, 0, none⟩ (.bool !odd)).alloc o).drew := by
  have hlt := (Array.getElem?_eq_some_iff.1 hl).1
  have a1 := heap_setCell_same _ _ 0 _ _ (.bool !odd) (heap_setCell_same _ _ 4 _ _ (.int .u64 (n1 : Int)) (heap_setCell_same _ _ 3 _ _ (.int .u64 (n0 : Int)) (heap_setCell_same _ _ 2 _ _ (.int .u64 (q1 : Int)) (heap_setCell_same _ _ 1 _ _ (.int .u64 (q0 : Int)) hl))))
  have a0 : (((((W.setCell ⟨w.heap.size + 1, 1, none⟩ (.int .u64 (q0 : Int))).setCell ⟨w.heap.size + 1, 2, none⟩ (.int .u64 (q1 : Int))).setCell ⟨w.heap.size + 1, 3, none⟩ (.int .u64 (n0 : Int))).setCell ⟨w.heap.size + 1, 4, none⟩ (.int .u64 (n1 : Int))).setCell ⟨w.heap.size + 1, 0, none⟩ (.bool !odd)).heap[w.heap.size]? = some lnil := by
    rw [heap_setCell_other _ _ _ _ (by simp), heap_setCell_other _ _ _ _ (by simp), heap_setCell_other _ _ _ _ (by simp), heap_setCell_other _ _ _ _ (by simp), heap_setCell_other _ _ _ _ (by simp)]
    exact hg
  have bb := ((((hb.setCell (p := ⟨w.heap.size + 1, 1, none⟩) (Nat.le_succ _) (.int .u64 (q0 : Int))).setCell (p := ⟨w.heap.size + 1, 2, none⟩) (Nat.le_succ _) (.int .u64 (q1 : Int))).setCell (p := ⟨w.heap.size + 1, 3, none⟩) (Nat.le_succ _) (.int .u64 (n0 : Int))).setCell (p := ⟨w.heap.size + 1, 4, none⟩) (Nat.le_succ _) (.int .u64 (n1 : Int))).setCell (p := ⟨w.heap.size + 1, 0, none⟩) (Nat.le_succ _) (.bool !odd)
  have al := (Below.refl (((((W.setCell ⟨w.heap.size + 1, 1, none⟩ (.int .u64 (q0 : Int))).setCell ⟨w.heap.size + 1, 2, none⟩ (.int .u64 (q1 : Int))).setCell ⟨w.heap.size + 1, 3, none⟩ (.int .u64 (n0 : Int))).setCell ⟨w.heap.size + 1, 4, none⟩ (.int .u64 (n1 : Int))).setCell ⟨w.heap.size + 1, 0, none⟩ (.bool !odd)).heap.size _).alloc (Nat.le_refl _) o
  exact ⟨!odd, q0, q1, n0, n1, y, r, rfl, rfl, hy, hr, h2, h3, h0, h1, hide hi, (al.block _ (by simp only [World.size_setCell]; exact hlt)).trans a1, (al.block _ (by simp only [World.size_setCell]; omega)).trans a0, below_drewN (bb.alloc bb.size o) 1⟩

/-- The same where a block was made besides. -/
theorem fl_more {w X : World} {U V g : Nat} {e : Ending} {o ob : Obj} (hb : w.heap.size ≤ X.heap.size) (h : X.heap[g]? = some ob ∧ FlRet w U V e X) : (X.alloc o).heap[g]? = some ob ∧ FlRet w U V e (X.alloc o) := by
  obtain ⟨h1, odd, p0, p1, q0, q1, e1, e2, e3, e4, e5, e6, e7⟩ := h
  exact ⟨((Below.refl X.heap.size X).alloc (Nat.le_refl _) o).block g (Array.getElem?_eq_some_iff.1 h1).1 |>.trans h1, odd, p0, p1, q0, q1, e1, e2, e3, e4, e5, e6, e7.alloc hb o⟩

set_option maxHeartbeats 8000000 in
theorem find_any (A D : Option Addr) (k c m d : Nat) (xs ys : List Nat) (w : World) (hx : Rd .u64 w w.heap.size A (k + 2) xs) (hy : Rd .u64 w w.heap.size D m ys) (dx : Dg Q xs) (dy : Dg Q ys)
    (hm : m ≤ k + 2) (hk : k ≤ 17592186044000) (htop : xs.getD (k + 1) 0 ≠ 0) (hle : vl Q ys ≤ vl Q xs) :
    Calls Tryd.prog 54 #[.slice A (k + 2) c, .slice D m d] w (FlRet w (vl Q xs) (vl Q ys)) := by
  obtain ⟨t, ht⟩ : ∃ t, xs.getD (k + 1) 0 = t := ⟨_, rfl⟩
  rw [ht] at htop
  have htQ : t < Q := by rw [← ht]; exact dx.getD Q_pos (k + 1)
  have hz : ∀ W, Calls Tryd.prog 84 #[.int .u64 (t : Int)] W _ := fun W => Tryd.bits_LeadingZeros64 (t : Int) W (by omega) (by unfold Q at htQ; omega)
  simp only [Int.toNat_natCast] at hz
  obtain ⟨es, hs63, hYQ, hY63⟩ := lz_spec (y := t) htop htQ
  rw [es] at hz
  clear es
  obtain ⟨s, hs⟩ : ∃ s, lz t = s := ⟨_, rfl⟩
  rw [hs] at hz hs63 hYQ hY63
  have hlx : xs.length ≤ k + 2 := by rw [hx.1]; exact Nat.le_refl _
  have hly : ys.length ≤ k + 2 := by rw [hy.1]; exact hm
  obtain ⟨h2, hh2⟩ : ∃ h2, ys.getD (k + 1) 0 = h2 := ⟨_, rfl⟩
  have hh : h2 ≤ t := win_le dx dy hlx hly ht hh2 hle
  have hYQ2 : h2 * 2 ^ s < Q := Nat.lt_of_le_of_lt (Nat.mul_le_mul_right _ hh) hYQ
  have bx0 := win_lt dx hlx ht rfl hs63 hYQ
  have by0 := win_lt dy hly hh2 rfl hs63 hYQ2
  have hUpos : 0 < vl Q xs := by
    rcases Nat.eq_zero_or_pos (vl Q xs) with h | h
    · have h1 := win_top dx hlx ht rfl
      rw [h, Nat.zero_div] at h1
      have : 0 < Q * t := Nat.mul_pos Q_pos (by omega)
      omega
    · exact h
  have w1 : ∀ W, Below w.heap.size w W → Calls Tryd.prog 91 #[.slice A (k + 2) c, .int .i64 ((k : Int) + 2), .int .i64 (s : Int)] W _ := fun W hb => win_any w.heap.size A (k + 2) c k s t xs W (hx.below hb (Nat.le_refl _)) dx (Nat.le_refl _) (by omega) hs63 ht hYQ
  have w2 : ∀ W, Below w.heap.size w W → Calls Tryd.prog 91 #[.slice D m d, .int .i64 ((k : Int) + 2), .int .i64 (s : Int)] W _ := fun W hb => win_any w.heap.size D m d k s h2 ys W (hy.below hb (Nat.le_refl _)) dy hm (by omega) hs63 hh2 hYQ2
  have hMp : 0 < Q ^ k * 2 ^ (64 - s) := Nat.mul_pos (Nat.pow_pos Q_pos) (Nat.pow_pos (by omega))
  have hdiv : vl Q ys / (Q ^ k * 2 ^ (64 - s)) ≤ vl Q xs / (Q ^ k * 2 ^ (64 - s)) := Nat.div_le_div_right hle
  obtain ⟨bb, ob, hA, _, hcell⟩ := hx.at_ (show k + 1 < k + 2 by omega)
  rw [ht] at hcell
  subst hA
  obtain ⟨U, hU⟩ : ∃ U, vl Q xs = U := ⟨_, rfl⟩
  obtain ⟨V, hV⟩ : ∃ V, vl Q ys = V := ⟨_, rfl⟩
  obtain ⟨M, hM⟩ : ∃ M, Q ^ k * 2 ^ (64 - s) = M := ⟨_, rfl⟩
  rw [hU, hM] at bx0 w1
  rw [hV, hM] at by0 w2
  rw [hU, hV, hM] at hdiv
  rw [hU] at hUpos ⊢
  rw [hV]
  rw [hM] at hMp
  obtain ⟨x0, hx0⟩ : ∃ x0, U / M = x0 := ⟨_, rfl⟩
  obtain ⟨y0, hy0⟩ : ∃ y0, V / M = y0 := ⟨_, rfl⟩
  rw [hx0] at bx0 w1
  rw [hy0] at by0 w2
  rw [hx0, hy0] at hdiv
  have a0 : Below w.heap.size w (w.alloc lnil) := (Below.refl _ _).alloc (Nat.le_refl _) _
  have W1 := hide w1
  have W2 := hide w2
  have HZ := hide hz
  have hbb := World.block_lt_of_cell? _ _ hcell
  have hcell1 : (w.alloc lnil).cell? ⟨bb, ob + (k + 1), none⟩ = some (.int .u64 (t : Int)) := (World.cell?_alloc_lt _ _ _ hbb).trans hcell
  clear hx hy dx dy hle htop htQ hYQ hY63 hYQ2 hlx hly hh hh2 ht hU hV hM w1 w2 hz hs hbb hcell
  have e1 : (k : Int) + 2 - 1 = (k : Int) + 1 := by omega
  go_enter Tryd.func54, Tryd.ntmps54
  go_wp2_with fail
  refine (HZ.out _).mono ?_
  rintro e w1 ⟨rfl, rfl⟩
  clear HZ hcell1
  go_wp2_with fail
  refine (W1.out _ a0).mono ?_
  rintro e w1 ⟨rfl, n1, rfl⟩
  go_wp2_with fail
  refine (W2.out _ (below_drewN a0 n1)).mono ?_
  rintro e w1 ⟨rfl, n2, rfl⟩
  go_wp2_with fail
  have start : FlRel w U V x0 y0 (.int .u64 (x0 : Int)) (.int .u64 (y0 : Int)) (((w.alloc lnil).drewN (n1 + n2)).alloc (.cells #[.bool false, .int .u64 1, .int .u64 0, .int .u64 0, .int .u64 1] 81)) := by
    refine ⟨false, 1, 0, 0, 1, x0, y0, rfl, rfl, bx0, by0, by decide +kernel, Q_pos, Q_pos, by decide +kernel, hide (LInv.start U V x0 y0 hdiv), ?_, ?_, ?_⟩
    · have h := heap_alloc_new ((w.alloc lnil).drewN (n1 + n2)) (lblk false 1 0 0 1)
      have e : ((w.alloc lnil).drewN (n1 + n2)).heap.size = w.heap.size + 1 := by simp
      rw [e] at h
      exact h
    · exact (((Below.refl ((w.alloc lnil).drewN (n1 + n2)).heap.size _).alloc (Nat.le_refl _) (lblk false 1 0 0 1)).block w.heap.size (by simp)).trans (heap_alloc_new w lnil)
    · exact (below_drewN a0 (n1 + n2)).alloc (by simp) _
  clear W1 W2 a0 hdiv e1 hm
  go_loopw [6, 7] (fun xv yv wr => FlRel w U V x0 y0 xv yv wr) (fun _ yv _ => (intOf yv).toNat)
  case atStart => exact start
  case round =>
    clear start
    obtain ⟨odd, p0, p1, q0, q1, x, y, rfl, rfl, bx, bY, b0, b1, b2, b3, hi, hl, hr, hbel⟩ := hrel
    have l0 := cell_of_row wr (w.heap.size + 1) 0 _ _ _ hl
    have l1 := cell_of_row wr (w.heap.size + 1) 1 _ _ _ hl
    have l2 := cell_of_row wr (w.heap.size + 1) 2 _ _ _ hl
    have l3 := cell_of_row wr (w.heap.size + 1) 3 _ _ _ hl
    have l4 := cell_of_row wr (w.heap.size + 1) 4 _ _ _ hl
    by_cases h0 : y = 0
    · subst h0
      have t0 : (((0 : Int) != 0)) = false := rfl
      have F := hide (fl_out hi.out hx0 hy0 hMp hUpos b0 b1 b2 b3 hr hbel)
      have r0 := cell_of_row wr w.heap.size 0 _ _ _ hr
      have r1 := cell_of_row wr w.heap.size 1 _ _ _ hr
      have r2 := cell_of_row wr w.heap.size 2 _ _ _ hr
      have r3 := cell_of_row wr w.heap.size 3 _ _ _ hr
      have r4 := cell_of_row wr w.heap.size 4 _ _ _ hr
      have f0 := frozen_of_row wr w.heap.size 0 _ _ hr
      have f1 := frozen_of_row wr w.heap.size 1 _ _ hr
      have f2 := frozen_of_row wr w.heap.size 2 _ _ hr
      have f3 := frozen_of_row wr w.heap.size 3 _ _ hr
      have f4 := frozen_of_row wr w.heap.size 4 _ _ hr
      clear hi hl hr hbel bx bY b0 b1 b2 b3
      simp at l0 l1 l2 l3 l4 r0 r1 r2 r3 r4
      go_wp2_with fail
      exact bodyPost_ret (lret rfl _ _ w.heap.size #[.bool odd, .int .u64 (p0 : Int), .int .u64 (p1 : Int), .int .u64 (q0 : Int), .int .u64 (q1 : Int)] rfl rfl F.out.1) rfl F.out.2
    · have t0 : ((y : Int) != 0) = true := by rw [bne_iff_ne]; omega
      have t1 : ((y : Int) == 0) = false := beq_eq_false_iff_ne.2 (by omega)
      have hy1 : (1 : Int) ≤ (y : Int) := by omega
      obtain ⟨B0, B1, B2⟩ := hi.out.bounds h0
      have hst := hi.out.step h0
      have hps := hi.out.pos h0
      have hry : x % y < y := Nat.mod_lt _ (by omega)
      have htx : x / y ≤ x := Nat.div_le_self _ _
      have eq : (x : Int) / (y : Int) = ((x / y : Nat) : Int) := (Int.natCast_ediv x y).symm
      have er : (x : Int) % (y : Int) = ((x % y : Nat) : Int) := (Int.natCast_emod x y).symm
      obtain ⟨t, ht⟩ : ∃ t, x / y = t := ⟨_, rfl⟩
      obtain ⟨r, hr'⟩ : ∃ r, x % y = r := ⟨_, rfl⟩
      rw [ht] at B0 B1 B2 eq hst htx hps
      rw [hr'] at B2 er hry hst
      obtain ⟨a0, ha0⟩ : ∃ a, t * q0 = a := ⟨_, rfl⟩
      obtain ⟨a1, ha1⟩ : ∃ a, t * q1 = a := ⟨_, rfl⟩
      rw [ha0] at B0 hst
      rw [ha1] at B1 B2 hst hps
      obtain ⟨n0, hn0⟩ : ∃ a, p0 + a0 = a := ⟨_, rfl⟩
      obtain ⟨n1, hn1⟩ : ∃ a, p1 + a1 = a := ⟨_, rfl⟩
      have m0 : IntKind.u64.wrap ((t : Int) * (q0 : Int)) = (a0 : Int) := by rw [← Int.natCast_mul, wrapM, ha0, Nat.mod_eq_of_lt (by omega)]
      have m1 : IntKind.u64.wrap ((t : Int) * (q1 : Int)) = (a1 : Int) := by rw [← Int.natCast_mul, wrapM, ha1, Nat.mod_eq_of_lt (by omega)]
      have s0 : (p0 : Int) + (a0 : Int) = (n0 : Int) := by omega
      have s1 : (p1 : Int) + (a1 : Int) = (n1 : Int) := by omega
      rw [hn0] at B0 hst
      rw [hn1] at B1 B2 hst hps
      have bn0 : n0 < Q := by omega
      have bn1 : n1 < Q := by omega
      have i0 : (n0 : Int) ≤ 18446744073709551615 := by unfold Q at bn0; omega
      have i1 : (n1 : Int) ≤ 18446744073709551615 := by unfold Q at bn1; omega
      have ix : (x : Int) ≤ 18446744073709551615 := by unfold Q at bx; omega
      have it : (t : Int) ≤ 18446744073709551615 := by omega
      have iy : (y : Int) ≤ 18446744073709551615 := by unfold Q at bY; omega
      simp at l0 l1 l2 l3 l4
      have HB0 := hide B0
      have HB1 := hide B1
      have HB2 := hide B2
      have HST := hide hst
      have HN0 := hide hn0
      have HN1 := hide hn1
      clear B0 B1 B2 hst hn0 hn1 ha0 ha1 ht hr'
      go_wp2_with fail
      go_quiet (fail)
      obtain ⟨W, hW⟩ : ∃ W, W = wr.drewN nq := ⟨_, rfl⟩
      rw [← hW]
      have hbel2 : Below w.heap.size w W := by rw [hW]; exact below_drewN hbel nq
      have hl2 : W.heap[w.heap.size + 1]? = some (lblk odd p0 p1 q0 q1) := by rw [hW]; exact hl
      have hr2 : W.heap[w.heap.size]? = some lnil := by rw [hW]; exact hr
      clear hbel hl hr l0 l1 l2 l3 l4 hW
      have hlt := (Array.getElem?_eq_some_iff.1 hl2).1
      have l0 := cell_of_row W (w.heap.size + 1) 0 _ _ _ hl2
      have l1 := cell_of_row W (w.heap.size + 1) 1 _ _ _ hl2
      have l2 := cell_of_row W (w.heap.size + 1) 2 _ _ _ hl2
      have l3 := cell_of_row W (w.heap.size + 1) 3 _ _ _ hl2
      have l4 := cell_of_row W (w.heap.size + 1) 4 _ _ _ hl2
      simp at l0 l1 l2 l3 l4
      have ER := hide er
      have HRY := hide hry
      have r0 := cell_of_row W w.heap.size 0 _ _ _ hr2
      have r1 := cell_of_row W w.heap.size 1 _ _ _ hr2
      have r2 := cell_of_row W w.heap.size 2 _ _ _ hr2
      have r3 := cell_of_row W w.heap.size 3 _ _ _ hr2
      have r4 := cell_of_row W w.heap.size 4 _ _ _ hr2
      simp at r0 r1 r2 r3 r4
      have hlt0 : w.heap.size < W.heap.size := by omega
      have HBel := hide hbel2
      have Hr := hide hr2
      have Hl := hide hl2
      have F := hide (fl_more (o := .cells #[.int .u64 (n0 : Int), .int .u64 (n1 : Int)] 79) (by simp only [World.size_setCell]; exact hbel2.size) (fl_out hi.out hx0 hy0 hMp hUpos b0 b1 b2 b3 hr2 hbel2))
      have f0 := frozen_of_row W w.heap.size 0 _ _ hr2
      have f1 := frozen_of_row W w.heap.size 1 _ _ hr2
      have f2 := frozen_of_row W w.heap.size 2 _ _ hr2
      have f3 := frozen_of_row W w.heap.size 3 _ _ hr2
      have f4 := frozen_of_row W w.heap.size 4 _ _ hr2
      clear hl2 hr2 hbel2
      by_cases c1 : r < n1
      · have d1 : decide ((r : Int) < (n1 : Int)) = true := decide_eq_true (by omega)
        simp only [er]
        go_wp2_with fail
        exact bodyPost_ret (lret rfl _ _ w.heap.size #[.bool odd, .int .u64 (p0 : Int), .int .u64 (p1 : Int), .int .u64 (q0 : Int), .int .u64 (q1 : Int)] rfl rfl F.out.1) rfl F.out.2
      · have d1 : decide ((r : Int) < (n1 : Int)) = false := decide_eq_false (by omega)
        have hqn : q1 + n1 < Q := by
          have := HB2.out (by omega)
          omega
        by_cases c2 : y - r < q1 + n1
        · have hir : (r : Int) ≤ (y : Int) := by omega
          have d2 : decide ((y : Int) - (r : Int) < (q1 : Int) + (n1 : Int)) = true := decide_eq_true (by omega)
          have i2 : (q1 : Int) + (n1 : Int) ≤ 18446744073709551615 := by unfold Q at hqn; omega
          simp only [er]
          go_wp2_with fail
          exact bodyPost_ret (lret rfl _ _ w.heap.size #[.bool odd, .int .u64 (p0 : Int), .int .u64 (p1 : Int), .int .u64 (q0 : Int), .int .u64 (q1 : Int)] rfl rfl F.out.1) rfl F.out.2
        · have hir : (r : Int) ≤ (y : Int) := by omega
          have d2 : decide ((y : Int) - (r : Int) < (q1 : Int) + (n1 : Int)) = false := decide_eq_false (by omega)
          have i2 : (q1 : Int) + (n1 : Int) ≤ 18446744073709551615 := by unfold Q at hqn; omega
          have Inv := hide (HST.out (by omega) (by omega))
          simp only [er]
          go_wp2_with fail
          have g0 := frozen_of_row W (w.heap.size + 1) 0 _ _ Hl.out
          have g1 := frozen_of_row W (w.heap.size + 1) 1 _ _ Hl.out
          have g2 := frozen_of_row W (w.heap.size + 1) 2 _ _ Hl.out
          have g3 := frozen_of_row W (w.heap.size + 1) 3 _ _ Hl.out
          have g4 := frozen_of_row W (w.heap.size + 1) 4 _ _ Hl.out
          have fin := fl_next (o := .cells #[.int .u64 (n0 : Int), .int .u64 (n1 : Int)] 79) Inv.out bY (by omega) b2 b3 bn0 bn1 Hl.out Hr.out HBel.out
          have Fin := hide fin
          clear fin Inv F Hr HBel
          go_region
          all_goals
            go_wp2_with fail
            go_roundw
            case rel => exact Fin.out
            case measure => simp [intOf]; omega
end Go.Proofs.YtkonakjchimniaaDoor
