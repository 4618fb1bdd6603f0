/-
  Shared texts, one behind the other: ZrefG, RatM, RatQ6, Pk, Spw, Vref1, Vref2, Vref3, Vref4, Vcpy, Vcpy2, Vspl.
-/
import Derived.Test.YtepaamclfdadnaaLatC
import Derived.Test.YtepaamclfdadnaaBundleE
import Derived.Test.YtepaamclfdadnaaBundleG
import Derived.Test.YtepaamclfdadnaaRatQ5
import Derived.Test.YtepaamclfdadnaaTm
import Derived.Test.YtepaamclfdadnaaTv
import Derived.Test.YtepaamclfdadnaaBundleO

namespace Go.Proofs.Ytepaamclfdadnaa
open Go.RowKit Go.Proofs.Ytepaamclfdadnaa.Num
set_option linter.unusedVariables false
set_option linter.unusedSimpArgs false
set_option maxRecDepth 100000

end Go.Proofs.Ytepaamclfdadnaa

namespace Go.Proofs.Ytepaamclfdadnaa.Num
abbrev Up (l : List Nat) : Prop := l.Pairwise (· < ·)
def Pl (ts : List Tm) (ps : List Nat) : Prop := Up ps ∧ (∀ y : Nat, y ∈ ps ↔ ∃ t ∈ ts, t.1 = (y : Int)) ∧ ps.length ≤ ts.length
end Go.Proofs.Ytepaamclfdadnaa.Num


namespace Go.Proofs.Ytepaamclfdadnaa
open Go.RowKit Go.Proofs.Ytepaamclfdadnaa.Num
set_option linter.unusedVariables false
set_option linter.unusedSimpArgs false
set_option maxRecDepth 100000
def Spw (B : Nat) (w w' : World) : Prop := Below B w w' ∧ w.heap.size ≤ w'.heap.size ∧ ∀ b j, b < w.heap.size → w'.frozen? ⟨b, j, none⟩ = w.frozen? ⟨b, j, none⟩ ∧
 (w'.cell? ⟨b, j, none⟩ = w.cell? ⟨b, j, none⟩ ∨ ((∃ z : Int, w.cell? ⟨b, j, none⟩ = some (.int .u64 z)) ∧ ∃ z : Int, w'.cell? ⟨b, j, none⟩ = some (.int .u64 z))) ∧
 ∀ cs T fz, w.heap[b]? = some (.cells cs T fz) → ∃ cs', w'.heap[b]? = some (.cells cs' T fz) ∧ (T ≠ 80 → cs' = cs)
theorem ten_two : 2 ≤ 10000 := by omega
theorem Ic.fit {w : World} {v : Value} {x L M : Nat} (h : Ic w v x L) (hx : x < 10000 ^ M) : Ic w v x M := by
 obtain ⟨A, c, e, h1, h2⟩ := h
 exact ⟨A, c, e, h1, cn_length_le ten_two hx⟩
theorem Rf.fit {w : World} {v : Value} {r : Rat} {L M : Nat} (h : Rf w v r L) (hr : Sz 10000 r M) : Rf w v r M := by
 obtain ⟨u, t, e, h1, h2⟩ := h
 exact ⟨u, t, e, h1.fit hr.1, h2.fit hr.2⟩
theorem Rf.sz {w : World} {v : Value} {r : Rat} {L : Nat} (h : Rf w v r L) : Sz 10000 r L := by
 obtain ⟨u, t, e, h1, h2⟩ := h
 exact ⟨h1.iw.lt, h2.iw.lt⟩
theorem Q_ten : Q ≤ 10000 ^ 5 := by unfold Q; decide
def RxRet (w : World) (r : Rat) (L : Nat) (e : Ending) (w' : World) : Prop := ∃ x : Rx, e = .returned (rx x) ∧ x.r = r ∧ Rf w' (rx x) x.r L ∧ Below w.heap.size w w'
theorem RfRet.to {w : World} {r : Rat} {L M : Nat} {e : Ending} {w' : World} (h : RfRet w r L e w') (hs : Sz 10000 r M) : RxRet w r M e w' := by
 obtain ⟨v, rfl, h, hb⟩ := h
 obtain ⟨s, A, n, c, D, m, d, rfl, h⟩ := h.parts
 exact ⟨⟨s, (A, n, c), (D, m, d), r⟩, rfl, rfl, h.fit hs, hb⟩
theorem rof_f {w : World} {v : Value} {r : Rat} {L : Nat} (h : Ra w v r L) (h1 : 1 ≤ L) (hL : L ≤ 1000000000) :
  Calls Try.prog 17 #[v] w (RxRet w r (5 * L)) :=
 (rof_r h h1 hL).mono fun e w' k => k.to (sz_base Q_ten (h.sz h1))
theorem rqsmall_f (w : World) (z : Int) (h1 : -9223372036854775808 ≤ z) (h2 : z ≤ 9223372036854775807) :
  Calls Try.prog 20 #[.int .i64 z] w (RxRet w (z : Rat) 6) := (rqsmall_any w z h1 h2).mono fun e w' h => by
 obtain ⟨v, e1, h2, h3⟩ := h
 exact RfRet.to ⟨v, e1, h2, h3⟩ h2.sz
theorem rfto_f {w : World} {v : Value} {r : Rat} {L : Nat} (h : Rf w v r L) (hL : L ≤ 100000000000) :
  Calls Try.prog 19 #[v] w fun e w' => ∃ x : Rx, e = .returned (rx x) ∧ x.r = r ∧ Rc w' (rx x) x.r L ∧ Below w.heap.size w w' := (rfto_any h hL).mono fun e w' h => h.rx
def Fq (W : World) (g : Nat) (s : Bool) (u t : Value) : Prop := W.heap[g]? = some (fqbox s u t)
theorem Fq.new (w : World) (s : Bool) (u t : Value) : Fq (w.alloc (fqbox s u t)) w.heap.size s u t := heap_alloc_new w _
theorem Fq.lt {W : World} {g : Nat} {s : Bool} {u t : Value} (h : Fq W g s u t) : g < W.heap.size := by unfold Fq at h; exact (Array.getElem?_eq_some_iff.1 h).1
theorem Fq.step {W W' : World} {g : Nat} {s : Bool} {u t : Value} (h : Fq W g s u t) (hb : Below W.heap.size W W') : Fq W' g s u t := (hb.block g h.lt).trans h
theorem Fq.all {W : World} {g : Nat} {s : Bool} {u t : Value} (h : Fq W g s u t) : W.cell? ⟨g, 0, none⟩ = some (.bool s) ∧ W.cell? ⟨g, 1, none⟩ = some u ∧ W.cell? ⟨g, 2, none⟩ = some t ∧ W.frozen? ⟨g, 0, none⟩ = false ∧ W.frozen? ⟨g, 1, none⟩ = false ∧ W.frozen? ⟨g, 2, none⟩ = false :=
 ⟨cell_of_row W g 0 _ _ _ h, cell_of_row W g 1 _ _ _ h, cell_of_row W g 2 _ _ _ h, frozen_of_row W g 0 _ _ h, frozen_of_row W g 1 _ _ h, frozen_of_row W g 2 _ _ h⟩
structure Zt where
 c : Int
 s : Bool
 xs : List Nat
 ys : List Nat
instance : Inhabited Zt := ⟨⟨0, false, [], []⟩⟩
def Zt.r (z : Zt) : Rat := mkRat (zi z.s (vl Q z.xs)) (dn (vl Q z.ys))
def Zf (W : World) (x : Rx) (z : Zt) (L : Nat) : Prop := x.s = z.s ∧ x.r = z.r ∧ Lw W (sv x.u) z.xs L ∧ Lw W (sv x.t) z.ys L

end Go.Proofs.Ytepaamclfdadnaa
