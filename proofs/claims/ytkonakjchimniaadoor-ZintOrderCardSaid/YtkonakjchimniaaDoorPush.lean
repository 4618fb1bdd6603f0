/-
  append of one number onto a slice of the call's own; append of a slice that came in onto an empty one.
-/
import Derived.Test.YtkonakjchimniaaDoorMem
import Derived.Maps.AppendAt
namespace Go.Proofs.YtkonakjchimniaaDoor
open Go.RowKit
set_option linter.unusedVariables false

theorem run_push {P : Program} {k : IntKind} {t e : TypeId} {i : TypeInfo} {z : Value} {by_ : Nat} (ht : P.underlying t = some (.slice e)) (hi : P.info? e = some i) (hz : i.zero = some z)
    (hsize : i.size = 1) (hby : i.bytes = by_) (hzs : z.cells.size = 1) (ty : TypeId) (wr : World) (B : Nat) (v : Value) (xs : List Nat) (x : Nat) (hown : Own k e wr B v xs)
    (hlen : xs.length + 1 ≤ 17592186044416) (hb8 : by_ ≤ 8) (hB : B ≤ wr.heap.size) :
    ∃ v' w', (Builtin.append_ #[t, t] ty #[v, .slice (some ⟨wr.heap.size, 0, none⟩) 1 1]).run P (wr.alloc (.cells #[.int k (x : Int)] e)) = .ok v' w' ∧ Own k e w' B v' (xs ++ [x]) ∧
      (wr.grownBy w' v.ownBlock ∧ (v'.ownBlock = v.ownBlock ∨ v'.ownBlock = some (wr.heap.size + 1))) := by
  have ho := (hown.alloc (.cells #[.int k (x : Int)] e)).toOwns
  obtain ⟨v', w', hr, h2, h3, -, h5⟩ := run_append_own_at (P := P) (wr.alloc (.cells #[.int k (x : Int)] e)) B t ty e i z 1 by_ ht hi hz hsize hby hzs (by omega) v xs.length _ ho
    ⟨wr.heap.size, 0, none⟩ 1 1 [.int k (x : Int)] rfl (by
      intro j u hj
      match j, hj with
      | 0, hj => simp at hj; subst hj; simp [Addr.add]) (by intro u hu; simp at hu; subst hu; rfl) (by unfold maxLen; omega)
      (by
        have h := Nat.mul_le_mul hlen hb8
        omega) (by simp; omega)
  refine ⟨v', w', hr, Own.ofOwns (n := xs.length + 1) (by simp) (by simpa using h2), ?_, by simpa using h5⟩
  exact only_trans (World.grownBy_alloc wr _ _) h3

theorem wpList_push {P : Program} {ops : Array Oper} {rest : List Oper} {o : Oper} {a : Act} {Q : Exit → Act → World → Prop} (hgd : o.guard = none) (s y : Operand) (t : TypeId)
    (ho : o.op = .call { callee := .builtin .append, args := #[s, y], argTypes := #[t, t] })
    {k : IntKind} {e : TypeId} {i : TypeInfo} {z : Value} {by_ : Nat} (ht : P.underlying t = some (.slice e)) (hi : P.info? e = some i) (hz : i.zero = some z)
    (hsize : i.size = 1) (hby : i.bytes = by_) (hzs : z.cells.size = 1) (wr : World) (B : Nat) (v : Value) (xs : List Nat) (x : Nat)
    (hown : Own k e wr B v xs) (hs : a.eval s = v) (hy : a.eval y = .slice (some ⟨wr.heap.size, 0, none⟩) 1 1)
    (hlen : xs.length + 1 ≤ 17592186044416) (hb8 : by_ ≤ 8) (hB : B ≤ wr.heap.size)
    (h : ∀ v' w', Own k e w' B v' (xs ++ [x]) → (wr.grownBy w' v.ownBlock ∧ (v'.ownBlock = v.ownBlock ∨ v'.ownBlock = some (wr.heap.size + 1))) → wpList P ops Q rest (a.put o.dst v') w') :
    wpList P ops Q (o :: rest) a (wr.alloc (.cells #[.int k (x : Int)] e)) :=
  wpList_plain hgd fun _ hK => by
    obtain ⟨v', w', hr, h2, h3⟩ := run_push (P := P) ht hi hz hsize hby hzs o.type wr B v xs x hown hlen hb8 hB
    unfold Oper.wp execOp
    simp only [ho, resolve, invoke, builtin, Sem.run_bind, Sem.run_pure, Result.andThen_ok, List.map_toArray, List.map_cons, List.map_nil, hs, hy, hr]
    exact hK _ _ (h v' w' h2 h3)

/-- What is owned behind a push still lies below nothing that was there. -/
theorem push_below {k : IntKind} {e : TypeId} {w wr w' : World} {B : Nat} {v : Value} {xs : List Nat} (hb : Below B w wr) (hown : Own k e wr B v xs) (hg : wr.grownBy w' v.ownBlock) (hB : B ≤ wr.heap.size) : Below B w w' := by
  refine hb.grown hg hB (fun g hg => ?_)
  rcases hown with ⟨rfl, _⟩ | ⟨g', cap, C, rfl, hB', _⟩
  · simp [Value.ownBlock] at hg
  · simp [Value.ownBlock] at hg; omega

/-- 'append([]T{}, s...)', s as it came in, not nil. -/
theorem run_clone {P : Program} {k : IntKind} {t e : TypeId} {i : TypeInfo} {z : Value} {by_ : Nat} (ht : P.underlying t = some (.slice e)) (hi : P.info? e = some i) (hz : i.zero = some z)
    (hsize : i.size = 1) (hby : i.bytes = by_) (hzs : z.cells.size = 1) (ty : TypeId) (w : World) (ad : Addr) (n c : Nat) (xs : List Nat) (hx : Rd k w w.heap.size (some ad) n xs)
    (hlen : n ≤ 17592186044416) (hb8 : by_ ≤ 8) :
    ∃ v' w', (Builtin.append_ #[t, t] ty #[.slice (some ⟨w.heap.size, 0, none⟩) 0 0, .slice (some ad) n c]).run P (w.alloc (.cells #[] e)) = .ok v' w' ∧ Own k e w' w.heap.size v' xs ∧ Below w.heap.size w w' := by
  have h0 := World.ownsRow_lit (base := w.heap.size) (e := e) (size := 1) w #[] 0 (Nat.le_refl _) (by simp [maxLen]) rfl
  obtain ⟨v', w', hr, h2, h3, -, h5⟩ := run_append_own_at (P := P) (w.alloc (.cells #[] e)) w.heap.size t ty e i z 1 by_ ht hi hz hsize hby hzs (by omega) _ 0 _ h0
    ad n c (xs.map fun n : Nat => Value.int k (n : Int)) (by simp [hx.1]) (by
      intro j u hj
      have hjn : j < n := by
        rw [List.getElem?_map] at hj
        rcases Nat.lt_or_ge j xs.length with h | h
        · rw [hx.1] at h; exact h
        · rw [List.getElem?_eq_none h] at hj; cases hj
      obtain ⟨b, off, he, hb, hc⟩ := hx.at_ hjn
      cases he
      have hl := hx.1
      rw [List.getElem?_map, List.getElem?_eq_getElem (by omega)] at hj
      simp at hj
      subst hj
      have e1 : (⟨b, off, none⟩ : Addr).add j = ⟨b, off + j, none⟩ := by
        unfold Addr.add
        by_cases h : j = 0
        · subst h; simp
        · simp [h]
      rw [e1, World.cell?_alloc_lt _ _ _ (by simpa using hb), hc]
      simp [List.getD_eq_getElem?_getD, show j < xs.length by omega]) (by intro u hu; simp at hu; obtain ⟨a, _, rfl⟩ := hu; rfl) (by unfold maxLen; omega)
      (by
        have h := Nat.mul_le_mul hlen hb8
        rw [Nat.zero_add]
        omega) (by simp)
  rw [Nat.zero_add] at h2
  refine ⟨v', w', hr, Own.ofOwns (n := n) hx.1.symm (by simpa using h2), ?_⟩
  refine ((Below.refl w.heap.size w).alloc (Nat.le_refl _) _).grown h3 (by simp) (fun g hg => ?_)
  simp [Value.ownBlock] at hg
  omega

theorem wpList_clone {P : Program} {ops : Array Oper} {rest : List Oper} {o : Oper} {a : Act} {Q : Exit → Act → World → Prop} (hgd : o.guard = none) (s y : Operand) (t : TypeId)
    (ho : o.op = .call { callee := .builtin .append, args := #[s, y], argTypes := #[t, t] })
    {k : IntKind} {e : TypeId} {i : TypeInfo} {z : Value} {by_ : Nat} (ht : P.underlying t = some (.slice e)) (hi : P.info? e = some i) (hz : i.zero = some z)
    (hsize : i.size = 1) (hby : i.bytes = by_) (hzs : z.cells.size = 1) (w : World) (ad : Addr) (n c : Nat) (xs : List Nat)
    (hs : a.eval s = .slice (some ⟨w.heap.size, 0, none⟩) 0 0) (hy : a.eval y = .slice (some ad) n c) (hx : Rd k w w.heap.size (some ad) n xs)
    (hlen : n ≤ 17592186044416) (hb8 : by_ ≤ 8)
    (h : ∀ v' w', Own k e w' w.heap.size v' xs → Below w.heap.size w w' → wpList P ops Q rest (a.put o.dst v') w') :
    wpList P ops Q (o :: rest) a (w.alloc (.cells #[] e)) :=
  wpList_plain hgd fun _ hK => by
    obtain ⟨v', w', hr, h2, h3⟩ := run_clone (P := P) ht hi hz hsize hby hzs o.type w ad n c xs hx hlen hb8
    unfold Oper.wp execOp
    simp only [ho, resolve, invoke, builtin, Sem.run_bind, Sem.run_pure, Result.andThen_ok, List.map_toArray, List.map_cons, List.map_nil, hs, hy, hr]
    exact hK _ _ (h v' w' h2 h3)
end Go.Proofs.YtkonakjchimniaaDoor
