/-
  Calls of the document's own answer on lists that are held as values: what each reads as, in how many places at most; a list's number told.
-/
import Derived.Test.YtkonakjchimniaaDoorRefE
namespace Go.Proofs.YtkonakjchimniaaDoor
open Go.RowKit Go.Proofs.YtkonakjchimniaaDoor.Num
set_option linter.unusedVariables false
set_option maxRecDepth 100000

/-- The value reads as the number x, in at most L places. -/
def Iw (w : World) (v : Value) (x L : Nat) : Prop :=
  ∃ A n c xs, v = .slice A n c ∧ Rd .i64 w w.heap.size A n xs ∧ Dg 10000 xs ∧ vl 10000 xs = x ∧ n ≤ L
/-- The value is the plain list of the number x, in at most L places. -/
def Ic (w : World) (v : Value) (x L : Nat) : Prop :=
  ∃ A c, v = .slice A (cn 10000 x).length c ∧ Rd .i64 w w.heap.size A (cn 10000 x).length (cn 10000 x) ∧ (cn 10000 x).length ≤ L

theorem B_two : 2 ≤ 10000 := by omega

theorem Iw.step {w w' : World} {v : Value} {x L : Nat} (h : Iw w v x L) (hb : Below w.heap.size w w') : Iw w' v x L := by
  obtain ⟨A, n, c, xs, e, h1, h2⟩ := h
  exact ⟨A, n, c, xs, e, (h1.below hb (Nat.le_refl _)).more hb.size, h2⟩
theorem Ic.step {w w' : World} {v : Value} {x L : Nat} (h : Ic w v x L) (hb : Below w.heap.size w w') : Ic w' v x L := by
  obtain ⟨A, c, e, h1, h2⟩ := h
  exact ⟨A, c, e, (h1.below hb (Nat.le_refl _)).more hb.size, h2⟩
theorem Ic.iw {w : World} {v : Value} {x L : Nat} (h : Ic w v x L) : Iw w v x L := by
  obtain ⟨A, c, e, h1, h2⟩ := h
  exact ⟨A, _, c, _, e, h1, dg_cn B_two x, vl_cn B_two x, h2⟩
theorem Iw.lt {w : World} {v : Value} {x L : Nat} (h : Iw w v x L) : x < 10000 ^ L := by
  obtain ⟨A, n, c, xs, e, h1, dx, rfl, hL⟩ := h
  have := vl_lt dx
  rw [h1.len] at this
  exact Nat.lt_of_lt_of_le this (Nat.pow_le_pow_right (by omega) hL)
theorem Ic.of {w : World} {B : Nat} {v : Value} {x L : Nat} (h : Own .i64 3 w B v (cn 10000 x)) (hL : x < 10000 ^ L) : Ic w v x L := by
  obtain ⟨A, c, rfl, h1, h2, h3, _⟩ := h.form
  exact ⟨A, c, rfl, h3, cn_length_le B_two hL⟩
theorem Ic.more {w : World} {v : Value} {x L M : Nat} (h : Ic w v x L) (hL : L ≤ M) : Ic w v x M := by
  obtain ⟨A, c, e, h1, h2⟩ := h
  exact ⟨A, c, e, h1, by omega⟩

/-- What a call leaves that answers the plain list of a number. -/
def INew (w : World) (x L : Nat) (e : Ending) (w' : World) : Prop := ∃ r, e = .returned r ∧ Own .i64 3 w' w.heap.size r (cn 10000 x) ∧ Ic w' r x L ∧ Below w.heap.size w w'

theorem INew.of {w : World} {x L : Nat} {e : Ending} {w' : World} (h : OwnRet .i64 3 w (cn 10000 x) e w') (hL : x < 10000 ^ L) : INew w x L e w' := by
  obtain ⟨r, he, ho, hb⟩ := h
  exact ⟨r, he, ho, Ic.of ho hL, hb⟩

theorem iadd {w : World} {u v : Value} {x y L M K : Nat} (hu : Iw w u x L) (hv : Iw w v y M) (hK : K ≤ 800000000000) (hLK : L ≤ K) (hMK : M ≤ K) :
    Calls Tryd.prog 59 #[u, v] w (INew w (x + y) (K + 1)) := by
  have lx := hu.lt
  have ly := hv.lt
  obtain ⟨A, n, c, xs, rfl, hx, dx, rfl, hn⟩ := hu
  obtain ⟨D, m, d, ys, rfl, hy, dy, rfl, hm⟩ := hv
  refine (radd_any A D n c m d xs ys w hx hy dx dy (by omega) (by omega)).mono fun e w' h => INew.of h ?_
  have h1 : 10000 ^ L ≤ 10000 ^ K := Nat.pow_le_pow_right (by omega) hLK
  have h2 : 10000 ^ M ≤ 10000 ^ K := Nat.pow_le_pow_right (by omega) hMK
  have h6 : 10000 ^ (K + 1) = 10000 ^ K * 10000 := Nat.pow_succ ..
  omega
theorem imul {w : World} {u v : Value} {x y L M : Nat} (hu : Iw w u x L) (hv : Iw w v y M) (hL : L ≤ 400000000000) (hM : M ≤ 400000000000) :
    Calls Tryd.prog 60 #[u, v] w (INew w (x * y) (L + M)) := by
  have lx := hu.lt
  have ly := hv.lt
  obtain ⟨A, n, c, xs, rfl, hx, dx, rfl, hn⟩ := hu
  obtain ⟨D, m, d, ys, rfl, hy, dy, rfl, hm⟩ := hv
  refine (rmul_any A D n c m d xs ys w hx hy dx dy (by omega) (by omega)).mono fun e w' h => INew.of h ?_
  rw [Nat.pow_add]
  exact Nat.mul_lt_mul'' lx ly
theorem isub {w : World} {u v : Value} {x y L M : Nat} (hu : Iw w u x L) (hv : Iw w v y M) (hL : L ≤ 800000000000) (hM : M ≤ 800000000000) (hle : y ≤ x) :
    Calls Tryd.prog 64 #[u, v] w (INew w (x - y) L) := by
  have lx := hu.lt
  obtain ⟨A, n, c, xs, rfl, hx, dx, rfl, hn⟩ := hu
  obtain ⟨D, m, d, ys, rfl, hy, dy, rfl, hm⟩ := hv
  exact (rsub_any A D n c m d xs ys w hx hy dx dy (by omega) (by omega) hle).mono fun e w' h => INew.of h (by omega)
theorem icmp {w : World} {u v : Value} {x y L M : Nat} (hu : Iw w u x L) (hv : Iw w v y M) (hL : L ≤ 800000000000) (hM : M ≤ 800000000000) :
    Calls Tryd.prog 63 #[u, v] w fun e w' => e = .returned (.int .i64 (cmpN x y)) ∧ w = w' := by
  obtain ⟨A, n, c, xs, rfl, hx, dx, rfl, hn⟩ := hu
  obtain ⟨D, m, d, ys, rfl, hy, dy, rfl, hm⟩ := hv
  exact rcmp_any _ A D n c m d xs ys w hx hy dx dy (by unfold maxLen; omega) (by unfold maxLen; omega)
theorem ismall {x L : Nat} (w : World) (hx : x ≤ 9223372036854775807) (hL : x < 10000 ^ L) :
    Calls Tryd.prog 58 #[.int .i64 (x : Int)] w (INew w x L) :=
  (small_any x w hx).mono fun e w' h => INew.of h hL
theorem itrim {w : World} {u : Value} {x L : Nat} (hu : Iw w u x L) (hL : L ≤ 800000000000) :
    Calls Tryd.prog 61 #[u] w (INew w x L) := by
  have lx := hu.lt
  obtain ⟨A, n, c, xs, rfl, hx, dx, rfl, hn⟩ := hu
  refine (rtrim_any A n c xs w hx (by omega)).mono fun e w' h => INew.of ?_ lx
  rw [cn_vl B_two dx]
  exact h

/-! ### A number told -/
theorem vl_drop_le {B : Nat} (hB : 0 < B) (xs : List Nat) (k : Nat) : vl B (xs.drop k) ≤ vl B xs := by
  have h := vl_cut B xs k
  have h1 : 1 ≤ B ^ k := Nat.pow_pos hB
  have h2 := Nat.mul_le_mul_right (vl B (xs.drop k)) h1
  rw [Nat.one_mul] at h2
  omega

set_option maxHeartbeats 1000000 in
theorem rvalue_any (B : Nat) (A : Option Addr) (n c : Nat) (xs : List Nat) (w : World) (hx : Rd .i64 w B A n xs) (hn : n ≤ 800000000000) (hv : vl 10000 xs ≤ 4611686018427387904) :
    Calls Tryd.prog 62 #[.slice A n c] w (QuietRet w (.int .i64 ((vl 10000 xs : Nat) : Int))) := by
  obtain ⟨V, hV⟩ : ∃ V, Hid (vl 10000 xs = V) := ⟨_, hide rfl⟩
  have hv2 : Hid (∀ k, vl 10000 (xs.drop k) ≤ 4611686018427387904) := hide (fun k => Nat.le_trans (vl_drop_le (by omega) xs k) hv)
  have e0 : Hid (vl 10000 (xs.drop n) = 0) := hide (by rw [List.drop_eq_nil_of_le (by have := hx.1; omega)]; rfl)
  rw [hV.out]
  clear hv
  go_enter Tryd.func62, Tryd.ntmps62
  go_wp2_with fail
  go_loop [3, 4] (fun nv iv => ∃ k u : Nat, k ≤ n ∧ iv = .int .i64 ((k : Int) - 1) ∧ nv = .int .i64 (u : Int) ∧ Hid (vl 10000 (xs.drop k) = u)) (fun _ iv => (intOf iv + 1).toNat)
  case atStart => exact ⟨n, 0, Nat.le_refl _, rfl, rfl, e0⟩
  case round =>
    obtain ⟨k, u, hk, rfl, rfl, hu⟩ := hrel
    clear e0
    rcases Nat.eq_zero_or_pos k with h0 | h0
    · subst h0
      have e := hu.out
      rw [List.drop_zero, hV.out] at e
      clear hu hx
      go_wp2_with fail
      go_ret
      exact ⟨by first | rfl | (rw [e]; rfl), 0, rfl⟩
    · obtain ⟨j, rfl⟩ : ∃ j, k = j + 1 := ⟨k - 1, by omega⟩
      have ej : ((j + 1 : Nat) : Int) - 1 = (j : Int) := by omega
      rw [ej]
      obtain ⟨x, ex⟩ : ∃ x, Hid (xs.getD j 0 = x) := ⟨_, hide rfl⟩
      obtain ⟨b, o, rfl, _, hcx⟩ := hx.at_ (show j < n by omega)
      rw [ex.out] at hcx
      have hu2 : Hid (vl 10000 (xs.drop j) = x + 10000 * u) := hide (by rw [vl_drop 10000 xs j, ex.out, hu.out])
      have hub := hv2.out j
      rw [hu2.out] at hub
      have e1 : IntKind.i64.wrap ((u : Int) * 10000) = (u : Int) * 10000 := IntWalk.i64_in _ (by omega)
      have e2 : IntKind.i64.wrap ((u : Int) * 10000 + (x : Int)) = ((x + 10000 * u : Nat) : Int) := by rw [IntWalk.i64_in _ (by omega)]; omega
      have i1 : (j : Int) < (n : Int) := by omega
      obtain ⟨z, hz⟩ : ∃ z, x + 10000 * u = z := ⟨_, rfl⟩
      rw [hz] at e2 hu2
      have fin : ∃ k u : Nat, k ≤ n ∧ Value.int .i64 ((j : Int) - 1) = .int .i64 ((k : Int) - 1) ∧ Value.int .i64 (z : Int) = .int .i64 (u : Int) ∧ Hid (vl 10000 (xs.drop k) = u) :=
        ⟨j, z, by omega, rfl, rfl, hu2⟩
      clear hz hu hu2 hub hv2 ej hx
      go_wp2_with fail
      go_round
      case rel => exact fin
      case measure => simp [intOf]
theorem ivalue {w : World} {u : Value} {x L : Nat} (hu : Iw w u x L) (hL : L ≤ 800000000000) (hx : x ≤ 4611686018427387904) :
    Calls Tryd.prog 62 #[u] w (QuietRet w (.int .i64 (x : Int))) := by
  obtain ⟨A, n, c, xs, rfl, h, dx, rfl, hn⟩ := hu
  exact rvalue_any _ A n c xs w h (by omega) hx

/-! ### append([]int{x}, r...) -/
theorem run_cons {P : Program} {k : IntKind} {t e : TypeId} {i : TypeInfo} {z : Value} {by_ : Nat} (ht : P.underlying t = some (.slice e)) (hi : P.info? e = some i) (hz : i.zero = some z)
    (hsize : i.size = 1) (hby : i.bytes = by_) (hzs : z.cells.size = 1) (ty : TypeId) (w : World) (x : Nat) (ad : Addr) (n c : Nat) (xs : List Nat) (hx : Rd k w w.heap.size (some ad) n xs)
    (hlen : n + 1 ≤ 17592186044416) (hb8 : by_ ≤ 8) :
    ∃ v' w', (Builtin.append_ #[t, t] ty #[.slice (some ⟨w.heap.size, 0, none⟩) 1 1, .slice (some ad) n c]).run P (w.alloc (.cells #[.int k (x : Int)] e)) = .ok v' w' ∧ Own k e w' w.heap.size v' (x :: xs) ∧ Below w.heap.size w w' := by
  have h0 : (w.alloc (.cells #[.int k (x : Int)] e)).ownsRow w.heap.size e 1 (.slice (some ⟨w.heap.size, 0, none⟩) 1 1) 1 ([x].map fun n : Nat => Value.int k (n : Int)) :=
    Own.toOwns (xs := [x]) (Own.of_row (Row.new w k e #[.int k (x : Int)] [x] (Nat.le_refl _) (fun j hj => by
      match j, hj with
      | 0, _ => rfl)) (Nat.le_refl _) rfl (by simp [maxLen]))
  obtain ⟨v', w', hr, h2, h3, -, h5⟩ := run_append_own_at (P := P) (w.alloc (.cells #[.int k (x : Int)] e)) w.heap.size t ty e i z 1 by_ ht hi hz hsize hby hzs (by omega) _ 1 _ h0
    ad n c (xs.map fun n : Nat => Value.int k (n : Int)) (by simp [hx.1]) (by
      intro j u hj
      have hjn : j < n := by
        rw [List.getElem?_map] at hj
        rcases Nat.lt_or_ge j xs.length with h | h
        · rw [hx.1] at h; exact h
        · rw [List.getElem?_eq_none h] at hj; cases hj
      obtain ⟨b, off, he, hb, hc⟩ := hx.at_ hjn
      cases he
      have hl := hx.1
      rw [List.getElem?_map, List.getElem?_eq_getElem (by omega)] at hj
      simp at hj
      subst hj
      have e1 : (⟨b, off, none⟩ : Addr).add j = ⟨b, off + j, none⟩ := by
        unfold Addr.add
        by_cases h : j = 0
        · subst h; simp
        · simp [h]
      rw [e1, World.cell?_alloc_lt _ _ _ (by simpa using hb), hc]
      simp [List.getD_eq_getElem?_getD, show j < xs.length by omega]) (by intro u hu; simp at hu; obtain ⟨a, _, rfl⟩ := hu; rfl) (by unfold maxLen; omega)
      (by
        have h := Nat.mul_le_mul hlen hb8
        rw [Nat.add_comm 1 n]
        omega) (by simp)
  refine ⟨v', w', hr, Own.ofOwns (n := 1 + n) (by simp [hx.1]; omega) (by simpa using h2), ?_⟩
  refine ((Below.refl w.heap.size w).alloc (Nat.le_refl _) _).grown h3 (by simp) (fun g hg => ?_)
  simp [Value.ownBlock] at hg
  omega

theorem run_cons_nil {P : Program} {k : IntKind} {t e : TypeId} {i : TypeInfo} (ht : P.underlying t = some (.slice e)) (hi : P.info? e = some i) (hsize : i.size = 1) (ty : TypeId) (w : World) (x : Nat) :
    (Builtin.append_ #[t, t] ty #[.slice (some ⟨w.heap.size, 0, none⟩) 1 1, .slice none 0 0]).run P (w.alloc (.cells #[.int k (x : Int)] e)) = .ok (.slice (some ⟨w.heap.size, 0, none⟩) 1 1) (w.alloc (.cells #[.int k (x : Int)] e)) := by
  simp [Builtin.append_, run_underlying ht, sizeOf, typeInfo, hi, Builtin.lenOf, Builtin.firstCells, storeCells]

theorem run_cons_own {P : Program} {k : IntKind} {t e : TypeId} {i : TypeInfo} {z : Value} {by_ : Nat} (ht : P.underlying t = some (.slice e)) (hi : P.info? e = some i) (hz : i.zero = some z)
    (hsize : i.size = 1) (hby : i.bytes = by_) (hzs : z.cells.size = 1) (ty : TypeId) (w : World) (x B : Nat) (v : Value) (xs : List Nat) (hx : Own k e w B v xs)
    (hlen : xs.length + 1 ≤ 17592186044416) (hb8 : by_ ≤ 8) :
    ∃ v' w', (Builtin.append_ #[t, t] ty #[.slice (some ⟨w.heap.size, 0, none⟩) 1 1, v]).run P (w.alloc (.cells #[.int k (x : Int)] e)) = .ok v' w' ∧ Own k e w' w.heap.size v' (x :: xs) ∧ Below w.heap.size w w' := by
  rcases hx with ⟨rfl, rfl⟩ | ⟨g, cap, C, rfl, hB, hr, hC, hm⟩
  · refine ⟨_, _, run_cons_nil ht hi hsize ty w x, ?_, (Below.refl _ _).alloc (Nat.le_refl _) _⟩
    exact Own.of_row (xs := [x]) (Row.new w k e #[.int k (x : Int)] [x] (Nat.le_refl _) (fun j hj => by
      match j, hj with
      | 0, _ => rfl)) (Nat.le_refl _) rfl (by simp [maxLen])
  · exact run_cons ht hi hz hsize hby hzs ty w x ⟨g, 0, none⟩ xs.length cap xs ⟨rfl, fun _ => ⟨g, 0, rfl, hr.lt, fun j hj => hr.cell hj⟩⟩ hlen hb8

theorem wpList_cons {P : Program} {ops : Array Oper} {rest : List Oper} {o : Oper} {a : Act} {Q : Exit → Act → World → Prop} (hgd : o.guard = none) (s y : Operand) (t : TypeId)
    (ho : o.op = .call { callee := .builtin .append, args := #[s, y], argTypes := #[t, t] })
    {k : IntKind} {e : TypeId} {i : TypeInfo} {z : Value} {by_ : Nat} (ht : P.underlying t = some (.slice e)) (hi : P.info? e = some i) (hz : i.zero = some z)
    (hsize : i.size = 1) (hby : i.bytes = by_) (hzs : z.cells.size = 1) (w : World) (x B : Nat) (v : Value) (xs : List Nat) (hx : Own k e w B v xs)
    (hs : a.eval s = .slice (some ⟨w.heap.size, 0, none⟩) 1 1) (hy : a.eval y = v)
    (hlen : xs.length + 1 ≤ 17592186044416) (hb8 : by_ ≤ 8)
    (h : ∀ v' w', Own k e w' w.heap.size v' (x :: xs) → Below w.heap.size w w' → wpList P ops Q rest (a.put o.dst v') w') :
    wpList P ops Q (o :: rest) a (w.alloc (.cells #[.int k (x : Int)] e)) :=
  wpList_plain hgd fun _ hK => by
    obtain ⟨v', w', hr, h2, h3⟩ := run_cons_own (P := P) ht hi hz hsize hby hzs o.type w x B v xs hx hlen hb8
    unfold Oper.wp execOp
    simp only [ho, resolve, invoke, builtin, Sem.run_bind, Sem.run_pure, Result.andThen_ok, List.map_toArray, List.map_cons, List.map_nil, hs, hy, hr]
    exact hK _ _ (h v' w' h2 h3)

/-! ### A list of one place; a store elsewhere -/
theorem iw_one (w : World) (t : TypeId) {x : Nat} (hx : x < 10000) : Iw (w.alloc (.cells #[.int .i64 (x : Int)] t)) (.slice (some ⟨w.heap.size, 0, none⟩) 1 1) x 1 :=
  ⟨_, 1, 1, [x], rfl, ⟨rfl, fun _ => ⟨w.heap.size, 0, rfl, by simp, fun j hj => by
    obtain rfl : j = 0 := by omega
    simp⟩⟩, Dg.cons hx Dg.nil, by simp [vl], Nat.le_refl _⟩
theorem Own.setFar {k : IntKind} {e : TypeId} {w : World} {B : Nat} {v : Value} {xs : List Nat} (h : Own k e w B v xs) {p : Addr} (hp : p.block < B) (u : Value) : Own k e (w.setCell p u) B v xs := by
  rcases h with h | ⟨g, cap, C, rfl, hB, hr, r⟩
  · exact .inl h
  · exact .inr ⟨g, cap, C, rfl, hB, hr.far (by omega) u, r⟩
end Go.Proofs.YtkonakjchimniaaDoor
