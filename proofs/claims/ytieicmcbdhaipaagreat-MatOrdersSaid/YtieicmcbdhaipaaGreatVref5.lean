
/-
  The document's own Axpy.
-/
import Derived.Test.YtieicmcbdhaipaaGreatBundleH


namespace Go.Proofs.YtieicmcbdhaipaaGreat
open Go.RowKit Go.Proofs.YtieicmcbdhaipaaGreat.Num
set_option linter.unusedVariables false
set_option linter.unusedSimpArgs false
set_option maxRecDepth 100000

/-- append of a list, perhaps nil, to one of the call's own. -/
theorem wpList_joinA {α : Type} {enc : α → List Value} {k : Nat} {P : Program} {ops : Array Oper} {rest : List Oper} {o : Oper} {a : Act} {Q : Exit → Act → World → Prop} (hgd : o.guard = none) (s y : Operand) (t : TypeId)
    (ho : o.op = .call { callee := .builtin .append, args := #[s, y], argTypes := #[t, t] })
    {e : TypeId} {i : TypeInfo} {z : Value} {by_ : Nat} (ht : P.underlying t = some (.slice e)) (hi : P.info? e = some i) (hz : i.zero = some z)
    (hsize : i.size = k) (hby : i.bytes = by_) (hzs : z.cells.size = k) (h0 : 0 < k) (hk : ∀ x, (enc x).length = k) (h1 : ∀ x, ∀ u ∈ enc x, u.oneCell' = true) (wr : World) (B : Nat) (v u : Value) (d d2 : List α)
    (hx : Lr enc k wr u d2) (hown : Ow e enc k wr B v d) (hs : a.eval s = v) (hy : a.eval y = u)
    (hlen : d.length + d2.length ≤ 1000000000000) (hb8 : by_ ≤ 128) (hB : B ≤ wr.heap.size)
    (h : ∀ v' w', Ow e enc k w' B v' (d ++ d2) → wr.grownBy w' v.ownBlock → wpList P ops Q rest (a.put o.dst v') w') :
    wpList P ops Q (o :: rest) a wr := by
  obtain ⟨A, c, rfl, hc1, hc2, hc3⟩ := id hx
  cases A with
  | none =>
    have h0 : d2 = [] := by
      rcases Nat.eq_zero_or_pos d2.length with h | h
      · exact List.length_eq_zero_iff.1 h
      · obtain ⟨b, off, e, _⟩ := hc3 h
        cases e
    subst h0
    have hv : ∃ A n c, v = .slice A n c ∧ n ≤ c := by
      rcases hown.form with ⟨rfl, _⟩ | ⟨g, cap, cur, rfl, _, _, _, h, _⟩
      · exact ⟨none, 0, 0, rfl, Nat.le_refl _⟩
      · exact ⟨_, _, _, rfl, h⟩
    obtain ⟨A, n, c0, rfl, hnc⟩ := hv
    refine wpList_join0 hgd s y t ho ht hi wr A n c0 c hnc hs hy (h _ _ ?_ (only_refl _ _))
    rw [List.append_nil]
    exact hown
  | some ad => exact wpList_joinE hgd s y t ho ht hi hz hsize hby hzs h0 hk h1 wr B v d ad c d2 hx hown hs hy hlen hb8 hB (fun v' w' h2 h3 => h v' w' h2 h3.1)
theorem Bq.off {W W' : World} {B g : Nat} {v : Value} {d : List Tx} {s : Bool} {u t : Value} (hq : Bq W g s u t) (hT : Ow 63 et 4 W B v d) (hg : W.grownBy W' v.ownBlock) : Bq W' g s u t := by
  refine (hg.block g hq.lt (fun he => ?_)).trans hq
  rcases hT.form with ⟨rfl, _⟩ | ⟨g', cap', cur, rfl, _, _, hh', _⟩
  · cases he
  · have e : g' = g := by simpa [Value.ownBlock] using he.symm
    subst e
    unfold Bq at hq
    rw [hq] at hh'
    injection hh' with hh'
    injection hh' with _ ht
    exact absurd ht (by decide)
/-- Terms that were there, and behind them ones of the call's own. -/
def Tj (w W : World) (B : Nat) (v : Value) (f g : List Tx) (M : Nat) : Prop := Ow 63 et 4 W B v (f ++ g) ∧ (∀ x ∈ f, Ra w (rx x.x) x.x.r M) ∧ ∀ x ∈ g, Rg W B x.x M
theorem Tj.step {w W W' : World} {B : Nat} {v : Value} {f g : List Tx} {M : Nat} (h : Tj w W B v f g M) (hb : Below W.heap.size W W') : Tj w W' B v f g M := ⟨h.1.step hb, h.2.1, fun x hx => (h.2.2 x hx).step hb⟩
theorem Tj.tv {w W : World} {B : Nat} {v : Value} {f g : List Tx} {M : Nat} (h : Tj w W B v f g M) (hb : Below w.heap.size w W) : Tv W v (f ++ g) M := ⟨h.1.rl et_len, fun x hx => by
  rcases List.mem_append.1 hx with hx | hx
  · exact (h.2.1 x hx).step hb
  · exact (h.2.2 x hx).ra⟩
theorem Tj.push {w W W' : World} {B : Nat} {v v' : Value} {f g : List Tx} {y : Tx} {M : Nat} (h : Tj w W B v f g M) (ho : Ow 63 et 4 W' B v' (f ++ g ++ [y])) (hg : W.grownBy W' v.ownBlock) (ry : Rg W B y.x M) : Tj w W' B v' f (g ++ [y]) M := by
  refine ⟨by rw [← List.append_assoc]; exact ho, h.2.1, fun x hx => ?_⟩
  rcases List.mem_append.1 hx with hx | hx
  · exact (h.2.2 x hx).grownT hg (fun g e => h.1.ot g e)
  · simp at hx
    subst hx
    exact ry.grownT hg (fun g e => h.1.ot g e)

end Go.Proofs.YtieicmcbdhaipaaGreat
