/-
  The walk of FieldsBlanks: true.
-/
import Derived.Test.YtinbeodihhjfmaaFld8
import Derived.Test.YtinbeodihhjfmaaFld10
import Derived.Laws.BytesArg
import Derived.Lib.AppendStr
namespace Go.Proofs.Ytinbeodihhjfmaa
open Go Go.RowKit Go.Shelf
set_option linter.unusedVariables false
set_option linter.unusedSimpArgs false
set_option maxRecDepth 100000

/-- The four gaps. -/
def gap8 : Nat → Bs
  | 0 => [32]
  | 1 => [9]
  | 2 => [32, 32]
  | _ => [32, 9, 32]
theorem gap8_ok : ∀ n, Gp (gap8 n)
  | 0 => ⟨by decide, by decide, by decide⟩
  | 1 => ⟨by decide, by decide, by decide⟩
  | 2 => ⟨by decide, by decide, by decide⟩
  | n + 3 => ⟨by show [32, 9, 32] ≠ []; decide, by show [32, 9, 32].length ≤ 3; decide, by show ∀ b ∈ [32, 9, 32], b = 32 ∨ b = 9; decide⟩

/-- The call's own bytes. -/
def eb (b : UInt8) : List Value := [.int .u8 (b.toNat : Int)]
theorem eb_len (b : UInt8) : (eb b).length = 1 := rfl
theorem flat_eb : ∀ d : Bs, flat eb d = Lib.strCells (ba d)
  | [] => rfl
  | x :: d => by
    have ih := flat_eb d
    rw [flat, ih]
    simp [Lib.strCells, eb]
abbrev Bw (W : World) (B : Nat) (v : Value) (xs : Bs) : Prop := Ow 5 eb 1 W B v xs
theorem info_u8 : (Try.prog.info? 5).map (fun i => (i.zero, i.size, i.bytes)) = some (some (.int .u8 0), 1, 1) := by kernel_rfl
/-- append of a string to bytes. -/
theorem wpList_appB {ops : Array Oper} {rest : List Oper} {o : Oper} {a : Act} {Q : Exit → Act → World → Prop} (hgd : o.guard = none) (s y : Operand)
    (ho : o.op = .call { callee := .builtin .append, args := #[s, y], argTypes := #[28, 9] }) (W : World) (B : Nat) (v : Value) (xs ys : Bs) (hx : Bw W B v xs) (hs : a.eval s = v) (hy : a.eval y = .string (ba ys))
    (hl : xs.length + ys.length ≤ 1000000000000) (hB : B ≤ W.heap.size) (h : ∀ v' w', Bw w' B v' (xs ++ ys) → W.grownBy w' v.ownBlock → wpList Try.prog ops Q rest (a.put o.dst v') w') :
    wpList Try.prog ops Q (o :: rest) a W := by
  obtain ⟨i, hi, hz, h1, h2⟩ := info_parts info_u8
  have hy2 : (ba ys).size = ys.length := ba_size ys
  refine Lib.wpList_append_own_string W hgd s y 28 9 ho B 5 i Try.underlying28 Try.underlying9 hi hz h1 h2 v xs.length (flat eb xs) hs hx (ba ys) hy (by rw [hy2]; unfold maxLen; omega) (by rw [hy2]; omega) hB ?_
  intro v' w' h3 h4 h5
  refine h v' w' ?_ h4
  unfold Bw Ow
  rw [List.length_append, ← hy2, show flat eb (xs ++ ys) = flat eb xs ++ Lib.strCells (ba ys) by rw [flat_eb, flat_eb]; simp [Lib.strCells]]
  exact h3
theorem b_conv {W : World} {B : Nat} {v : Value} {xs : Bs} (h : Bw W B v xs) : (convert 28 9 v).run Try.prog W = .ok (.string (ba xs)) W := by
  rcases h.form with ⟨rfl, rfl⟩ | ⟨g, cap, cur, rfl, _⟩
  · rfl
  · have h2 := h.rl eb_len
    have h3 : strOfNums (xs.map fun b => (b.toNat : Int)) = ba xs := by
      unfold strOfNums
      simp only [List.map_map]
      congr 2
      exact (List.map_congr_left (fun b _ => by simp)).trans (List.map_id _)
    rw [← h3]
    refine run_convert_bytes_arg (P := Try.prog) W 28 5 Try.underlying28 Try.underlying5 g 0 _ cap _ (by rw [List.length_map]) (fun i hi => ?_) 9 Try.underlying9
    obtain ⟨b, hb⟩ := at8 hi
    obtain ⟨p, q, e, _, hc⟩ := h2.get hb
    injection e with e
    injection e with e1 e2
    subst e1 e2
    have := hc 0 _ rfl
    rw [Nat.mul_one, Nat.add_zero] at this
    rw [this]
    simp [List.getD_eq_getElem?_getD, hb]

theorem jw_next {g : Bs} {ws : List ByteArray} {j : Nat} {s : ByteArray} (hs : ws[j]? = some s) : jw g true ((ws.take (j + 1)).map bs) = jw g true ((ws.take j).map bs) ++ ((if j = 0 then [] else g) ++ bs s) := by
  rw [List.take_add_one, hs, Option.toList_some, List.map_append, List.map_cons, List.map_nil, jw_snoc]
  have hj : j < ws.length := (List.getElem?_eq_some_iff.1 hs).1
  by_cases h0 : j = 0
  · subst h0
    simp
  · have h1 : ((ws.take j).map bs).isEmpty = false := by
      cases h2 : (ws.take j).map bs with
      | nil =>
        have := congrArg List.length h2
        rw [List.length_map, List.length_take, List.length_nil] at this
        omega
      | cons a b => rfl
    rw [h1, if_neg h0]
    rfl
theorem bld_next {g : Bs} {ls : List Ln} {k : Nat} {l : Ln} (h : ls[k]? = some l) : bld g (ls.take (k + 1)) = bld g (ls.take k) ++ txt g l := by
  rw [List.take_add_one, h, Option.toList_some, bld_snoc]
/-- The first k lines have the other lines' numbers. -/
def nosTo (d2 d : List Lx) (k : Nat) (dk : List Lx) : Prop := dk.length = d2.length ∧ ∀ j x, d2[j]? = some x → ∃ y, dk[j]? = some y ∧ y.hd = x.hd ∧ y.ws = x.ws ∧ (j < k → ∃ z, d[j]? = some z ∧ y.no = z.no)
theorem nosTo.zero (d2 d : List Lx) : nosTo d2 d 0 d2 := ⟨rfl, fun j x h => ⟨x, h, rfl, rfl, fun h => by omega⟩⟩
theorem nosTo.next {d2 d dk : List Lx} {k : Nat} {y z : Lx} (h : nosTo d2 d k dk) (hy : dk[k]? = some y) (hz : d[k]? = some z) : nosTo d2 d (k + 1) (dk.set k ⟨z.no, y.hd, y.wv, y.ws⟩) := by
  refine ⟨by rw [List.length_set]; exact h.1, fun j x hx => ?_⟩
  obtain ⟨u, h1, h2, h3, h4⟩ := h.2 j x hx
  by_cases e : k = j
  · subst e
    rw [hy] at h1
    injection h1 with h1
    subst h1
    exact ⟨_, List.getElem?_set_self (List.getElem?_eq_some_iff.1 hy).1, h2, h3, fun _ => ⟨z, hz, rfl⟩⟩
  · exact ⟨u, by rw [List.getElem?_set_ne e]; exact h1, h2, h3, fun hj => h4 (by omega)⟩
theorem nosTo.done {d2 d dk : List Lx} (h : nosTo d2 d d2.length dk) (hm : (d2.map Lx.ln).map Ln.hw = (d.map Lx.ln).map Ln.hw) : dk.map Lx.ln = d.map Lx.ln := by
  have hl : d2.length = d.length := by have := congrArg List.length hm; simpa using this
  apply List.ext_getElem?
  intro j
  by_cases hj : j < d2.length
  · obtain ⟨x, hx⟩ := at8 hj
    obtain ⟨y, h1, h2, h3, h4⟩ := h.2 j x hx
    obtain ⟨z, hz, hn⟩ := h4 hj
    have e : ((d2.map Lx.ln).map Ln.hw)[j]? = ((d.map Lx.ln).map Ln.hw)[j]? := by rw [hm]
    rw [List.getElem?_map, List.getElem?_map, List.getElem?_map, List.getElem?_map, hx, hz] at e
    simp only [Option.map_some, Option.some.injEq, Ln.hw, Lx.ln, Prod.mk.injEq] at e
    rw [List.getElem?_map, List.getElem?_map, h1, hz]
    simp only [Option.map_some, Lx.ln, h2, h3, hn, e.1, e.2]
  · rw [List.getElem?_eq_none (by rw [List.length_map, h.1]; omega), List.getElem?_eq_none (by rw [List.length_map]; omega)]
theorem bits_gap {z : Int} (hz : 0 ≤ z ∧ z ≤ 255) : ∃ n : Nat, n < 4 ∧ bits BinOp.and IntKind.u8 z 3 = (n : Int) := by
  obtain ⟨m, rfl⟩ := Int.eq_ofNat_of_zero_le hz.1
  have h : ∀ m : Fin 256, bits BinOp.and IntKind.u8 (m.val : Int) 3 = ((m.val % 4 : Nat) : Int) := by decide +kernel
  exact ⟨m % 4, Nat.mod_lt _ (by omega), h ⟨m, by omega⟩⟩
abbrev gw (w : World) : World := w.alloc (.cells #[.string ⟨#[32]⟩, .string ⟨#[9]⟩, .string ⟨#[32, 32]⟩, .string ⟨#[32, 9, 32]⟩] 27)
theorem gw_cell (w : World) {n : Nat} (h : n < 4) : (gw w).cell? ⟨w.heap.size, n, none⟩ = some (.string (ba (gap8 n))) := by
  have h1 : (gw w).heap[w.heap.size]? = some (.cells #[.string ⟨#[32]⟩, .string ⟨#[9]⟩, .string ⟨#[32, 32]⟩, .string ⟨#[32, 9, 32]⟩] 27 (0, 0)) := by
    show (w.heap.push _)[w.heap.size]? = _
    simp
  unfold World.cell?
  simp only [h1]
  match n, h with
  | 0, _ => rfl
  | 1, _ => rfl
  | 2, _ => rfl
  | 3, _ => rfl

set_option maxHeartbeats 16000000 in
theorem blanks_go (w : World) (a : ByteArray) (z : Int) (ha : a.data.toList.length ≤ 140737488351232) (hz0 : (Lit.int .u8 z).wf = true) :
    Calls Try.prog 3 #[.string a, .int .u8 z] w fun e w' => e = .returned (.bool true) ∧ Below w.heap.size w w' := by
  have hz : 0 ≤ z ∧ z ≤ 255 := by simpa [Lit.wf, IntKind.min, IntKind.max, IntKind.signed, IntKind.bits] using hz0
  obtain ⟨x, hx⟩ : ∃ x, a.data.toList = x := ⟨_, rfl⟩
  have ea : a = ba x := by rw [← hx]
  rw [hx] at ha
  clear hx hz0
  subst ea
  have zx : (ba x).size = x.length := ba_size x
  have F1 := hide (fun W => flines_f x W (by omega))
  obtain ⟨X, hX⟩ : ∃ X, ba x = X := ⟨_, rfl⟩
  rw [hX] at F1 zx ⊢
  clear hX
  go_enter Try.func3, Try.ntmps3
  go_wp2_with fail
  refine (speaks8 w).mono ?_
  rintro e w2 ⟨rfl, bx⟩
  have B := hide bx
  clear bx
  go_wp2_with fail
  refine (F1.out w2).mono ?_
  rintro e w3 hf
  obtain ⟨A1, n1, c1, e1, k1, d, rfl, t1, l1, bx⟩ := fl_form hf
  have T1 := hide t1
  have L1 := hide l1
  have B1 := hide (bstep B.out B.out.size bx)
  have E1 := hide (And.intro bx.size B.out.size)
  clear hf t1 l1 bx F1
  rcases T1.out with ⟨g1, rfl, rfl, h4, rfl⟩ | ⟨g1, (⟨r, h, rfl, rfl, h4, rfl⟩ | ⟨h, rfl, rfl, -, m1⟩)⟩
  · injection h4 with _ h4 _
    subst h4
    clear T1 g1
    go_wp2_with fail
    go_ret
    exact ⟨rfl, B1.out⟩
  · injection h4 with _ h4 _
    subst h4
    clear T1 g1
    go_wp2_with fail
    go_ret
    exact ⟨rfl, B1.out⟩
  · by_cases hlong : 6000 < x.length
    · have hsz : X.size ≤ 140737488351232 := by omega
      have q1 : decide ((6000 : Int) < (X.size : Int)) = true := decide_eq_true (by omega)
      clear T1 g1 zx hlong h m1
      go_wp2_with fail
      go_ret
      exact ⟨rfl, B1.out⟩
    · have hsz : X.size ≤ 6000 := by omega
      have q1 : decide ((6000 : Int) < (X.size : Int)) = false := decide_eq_false (by omega)
      have T2 := hide (show x.length ≤ 6000 ∧ badAt 0 (lnsOf x) = none ∧ d.map Lx.ln = good 0 (lnsOf x) from ⟨by omega, h, m1⟩)
      clear T1 g1 zx hlong h m1
      obtain ⟨n, hn, hb⟩ := bits_gap hz
      have l0 : (0 : Int) ≤ (n : Int) := by omega
      have l1 : (n : Int) < 4 := by omega
      have gc := gw_cell w3 hn
      have W4 := hide (show Below w3.heap.size w3 (gw w3) from (Below.refl _ _).alloc (Nat.le_refl _) _)
      obtain ⟨w4, h4⟩ : ∃ w4, gw w3 = w4 := ⟨_, rfl⟩
      obtain ⟨g, hg⟩ : ∃ g, gap8 n = g := ⟨_, rfl⟩
      have HG := hide (show Gp g from by rw [← hg]; exact gap8_ok n)
      rw [hg, h4] at gc
      rw [h4] at W4
      clear hg
      go_wp2_with fail
      have BW := hide (show Bw (w4.alloc (.cells #[] 5)) w3.heap.size (.slice (some ⟨w4.heap.size, 0, none⟩) 0 0) (bld g ((d.map Lx.ln).take 0)) from Ow.lit eb_len w4 5 [] #[] rfl W4.out.size (Nat.zero_le _))
      have W5 := hide (show Below w3.heap.size w3 (w4.alloc (.cells #[] 5)) from W4.out.alloc W4.out.size _)
      have hn1 : n1 = d.length := own_len8 L1.out.1
      have HN1 := hide hn1
      have hfit : ∀ l ∈ d.map Lx.ln, l.ws.length ≤ 6000 ∧ ∀ w ∈ l.ws, (bs w).length ≤ 6000 := fun l hl => by
        obtain ⟨t1, t2, t3⟩ := T2.out
        rw [t3] at hl
        exact good_fit 0 (lnsOf x) 6000 t2 (fun y hy => Nat.le_trans (lnsOf_mem_len x y hy).1 t1) l hl
      have hdl : d.length ≤ 6000 := by
        obtain ⟨t1, t2, t3⟩ := T2.out
        have h1 := congrArg List.length t3
        rw [List.length_map] at h1
        have h2 := good_len 0 (lnsOf x)
        have h3 := lnsOf_len x
        omega
      have FIT := hide (show ∀ k, (bld g ((d.map Lx.ln).take k)).length ≤ 240000000000 from fun k => by
        have h1 := bld_fit HG.out ((d.map Lx.ln).take k) (fun l hl => hfit l (List.mem_of_mem_take hl))
        have h2 : ((d.map Lx.ln).take k).length ≤ 6000 := by rw [List.length_take, List.length_map]; omega
        omega)
      have HF := hide hfit
      have hn6 : n1 ≤ 6000 := by omega
      clear hn1 gc h4 W4 l0 l1 hb hn hfit hdl
      go_loopw [10, 44] (fun bv iv wr => ∃ k : Nat, k ≤ n1 ∧ iv = .int .i64 (k : Int) ∧ Hid (Below w3.heap.size w3 wr) ∧ Hid (Bw wr w3.heap.size bv (bld g ((d.map Lx.ln).take k)))) (fun _ iv _ => n1 - (intOf iv).toNat)
      case atStart => exact ⟨0, Nat.zero_le _, rfl, W5, BW⟩
      case round =>
        obtain ⟨k, hk, rfl, Z, Y⟩ := hrel
        by_cases hlt : k < n1
        · obtain ⟨⟨no, hd, ⟨P, q, r⟩, ws⟩, hxk⟩ := at8 (d := d) (k := k) (by rw [← HN1.out]; exact hlt)
          have WS := hide (show Lr es 1 w3 (.slice P q r) ws from L1.out.lv.2 _ (List.mem_of_getElem? hxk))
          obtain ⟨b, off, rfl, hb, hcs⟩ := (L1.out.lv.1.step Z.out).get hxk
          have c0 : wr.cell? ⟨b, off + k * 3, none⟩ = some (.int .i64 (no : Int)) := by have := hcs 0 _ rfl; rwa [Nat.add_zero] at this
          have c1' : wr.cell? ⟨b, off + k * 3 + 1, none⟩ = some (.bool hd) := hcs 1 _ rfl
          have c2' : wr.cell? ⟨b, off + k * 3 + 2, none⟩ = some (.slice P q r) := hcs 2 _ rfl
          have hq : q = ws.length := by
            obtain ⟨A', c', e, _⟩ := WS.out
            injection e
          have hqm : q ≤ 9223372036854775807 := by
            have h2 : ws.length ≤ maxLen := WS.out.len
            unfold maxLen at h2
            omega
          have HQ := hide hq
          have l0 : (0 : Int) ≤ (k : Int) := by omega
          have l1 : (k : Int) < (n1 : Int) := by omega
          clear hq hcs hb
          have HK := hide (bld_next (g := g) (show (d.map Lx.ln)[k]? = some ⟨no, hd, ws⟩ by rw [List.getElem?_map, hxk]; rfl))
          have HW := hide (HF.out ⟨no, hd, ws⟩ (List.mem_map.2 ⟨_, List.mem_of_getElem? hxk, rfl⟩))
          have ZA := hide (show Below w3.heap.size w3 (wr.alloc (.cells #[.int .i64 (no : Int), .bool hd, .slice P q r] 31)) from Z.out.alloc Z.out.size _)
          have YA := hide (show Bw (wr.alloc (.cells #[.int .i64 (no : Int), .bool hd, .slice P q r] 31)) w3.heap.size u10 (bld g ((d.map Lx.ln).take k)) from Y.out.step ((Below.refl _ _).alloc (Nat.le_refl _) _))
          clear hxk
          have LA := hide (show (bld g ((d.map Lx.ln).take k)).length + g.length ≤ 1000000000000 by have := FIT.out k; have := HG.out.2.1; omega)
          obtain ⟨PR, hPR⟩ : ∃ PR, bld g ((d.map Lx.ln).take k) ++ (if hd then [] else g) = PR := ⟨_, rfl⟩
          have LP := hide (show PR.length ≤ 240000000003 by
            have h1 := FIT.out k
            have h2 := HG.out.2.1
            rw [← hPR, List.length_append]
            have h3 : (if hd then [] else g : Bs).length ≤ 3 := by split <;> simp [h2]
            omega)
          have HN := hide (show bld g ((d.map Lx.ln).take (k + 1)) = PR ++ (jw g true (ws.map bs) ++ (g ++ tl8)) by rw [HK.out, ← hPR, List.append_assoc]; rfl)
          have CB := hide (show ∀ W', (wr.alloc (.cells #[.int .i64 (no : Int), .bool hd, .slice P q r] 31)).grownBy W' u10.ownBlock → W'.cell? ⟨wr.heap.size, 2, none⟩ = some (.slice P q r) from fun W' hg => by
            have h1 := hg.block wr.heap.size (by rw [World.size_alloc]; omega) (fun e => by
              have := (Y.out.lt e.symm).2
              omega)
            have h2 : (wr.alloc (.cells #[.int .i64 (no : Int), .bool hd, .slice P q r] 31)).heap[wr.heap.size]? = some (.cells #[.int .i64 (no : Int), .bool hd, .slice P q r] 31 (0, 0)) := by
              show (wr.heap.push _)[wr.heap.size]? = _
              simp
            rw [h2] at h1
            unfold World.cell?
            rw [h1]
            rfl)
          clear HK
          cases hd
          all_goals
            go_wp2_with (at_builtin; go_must (refine wpList_appB rfl (.tmp 51) (.tmp 52) rfl _ w3.heap.size _ (bld g ((d.map Lx.ln).take k)) g YA.out rfl rfl LA.out ZA.out.size ?_); intro v' w' ho hg; rw [show bld g ((d.map Lx.ln).take k) ++ g = PR from hPR] at ho; have YQ := hide ho; have cb2 := CB.out _ hg; have ZQ := hide (below_own ZA.out YA.out hg ZA.out.size); clear ho hg)
            first
            | (have YZ := hide YQ.out; clear YZ)
            | (have YQ := YA; have ZQ := ZA; rw [show bld g ((d.map Lx.ln).take k) = PR from by rw [← hPR]; exact (List.append_nil _).symm] at YQ)
            have YS := hide (show ∀ W v, Bw W w3.heap.size v PR → Bw W w3.heap.size v (PR ++ jw g true ((ws.take 0).map bs)) from fun W v h => by rw [show jw g true ((ws.take 0).map bs) = [] from rfl, List.append_nil]; exact h)
            have Y0 := hide (YS.out _ _ YQ.out)
            clear c0 c1' c2' YS hPR YA ZA YQ Y CB
            try clear cb2
            go_loopw [10, 57] (fun bv iv wr => ∃ j : Nat, j ≤ q ∧ iv = .int .i64 (j : Int) ∧ Hid (Below w3.heap.size w3 wr) ∧ Hid (Bw wr w3.heap.size bv (PR ++ jw g true ((ws.take j).map bs)))) (fun _ iv _ => q - (intOf iv).toNat)
            case atStart => exact ⟨0, Nat.zero_le _, rfl, ZQ, Y0⟩
            case round =>
              obtain ⟨j, hj, rfl, Z5, Y5⟩ := hrel
              have LJ := hide (show (jw g true ((ws.take j).map bs)).length ≤ 6000 * 6003 by
                have h1 := jw_len HG.out.2.1 (M := 6000) ((ws.take j).map bs) true (fun w hw => by
                  obtain ⟨v, hv, rfl⟩ := List.mem_map.1 hw
                  exact HW.out.2 v (List.mem_of_mem_take hv))
                have h2 : ((ws.take j).map bs).length ≤ 6000 := by
                  have h3 : ws.length ≤ 6000 := HW.out.1
                  rw [List.length_map, List.length_take]
                  omega
                have h3 := Nat.mul_le_mul_right (6000 + 3) h2
                omega)
              by_cases hjt : j < q
              · obtain ⟨s, hs⟩ := at8 (d := ws) (k := j) (by rw [← HQ.out]; exact hjt)
                obtain ⟨p1, q1', rfl, hp1, hc1⟩ := (WS.out.step Z5.out).get hs
                have s1 := hc1 0 _ rfl
                rw [Nat.add_zero, Nat.mul_one] at s1
                have m0 : (0 : Int) ≤ (j : Int) := by omega
                have m1 : (j : Int) < (q : Int) := by omega
                have LS := hide (show (bs s).length ≤ 6000 from HW.out.2 s (List.mem_of_getElem? hs))
                have JN := hide (jw_next (g := g) hs)
                have es1 : (Value.string s) = .string (ba (bs s)) := by rw [ba_bs]
                rw [es1] at s1
                obtain ⟨sb, hsb⟩ : ∃ sb, bs s = sb := ⟨_, rfl⟩
                rw [hsb] at s1 LS JN
                clear hs hp1 hc1 es1 hsb
                have L5 := hide (show (PR ++ jw g true ((ws.take j).map bs)).length + g.length ≤ 1000000000000 by
                  have := LP.out
                  have := LJ.out
                  have := HG.out.2.1
                  rw [List.length_append]
                  omega)
                have L6 := hide (show (PR ++ jw g true ((ws.take j).map bs) ++ g).length + sb.length ≤ 1000000000000 by
                  have := LP.out
                  have := LJ.out
                  have := HG.out.2.1
                  have := LS.out
                  rw [List.length_append, List.length_append]
                  omega)
                have L7 := hide (show (PR ++ jw g true ((ws.take j).map bs)).length + sb.length ≤ 1000000000000 by
                  have := LP.out
                  have := LJ.out
                  have := LS.out
                  rw [List.length_append]
                  omega)
                have Z5S := hide Z5.out.size
                rcases Nat.eq_zero_or_pos j with hj0 | hj0
                · have t0 : decide (0 < j) = false := decide_eq_false (by omega)
                  have HJ := hide (show PR ++ jw g true ((ws.take j).map bs) ++ sb = PR ++ jw g true ((ws.take (j + 1)).map bs) by rw [JN.out, if_pos hj0]; simp)
                  clear hj0
                  go_wp2_with (at_builtin; go_must (refine wpList_appB rfl (.tmp 67) (.tmp 68) rfl _ w3.heap.size _ _ sb Y5.out rfl rfl L7.out Z5.out.size ?_); intro v' w' ho hg; rw [HJ.out] at ho; have YF := hide ho; have ZF := hide (below_own Z5.out Y5.out hg Z5.out.size); clear ho hg)
                  exact ⟨⟨j + 1, by omega, by go_num, ZF, YF⟩, by simp [intOf]; omega⟩
                · have t0 : decide (0 < j) = true := decide_eq_true (by omega)
                  have HJ := hide (show PR ++ jw g true ((ws.take j).map bs) ++ g ++ sb = PR ++ jw g true ((ws.take (j + 1)).map bs) by rw [JN.out, if_neg (by omega)]; simp)
                  clear hj0
                  go_wp2_with (first
                    | (at_builtin; refine wpList_appB rfl (.tmp 64) (.tmp 65) rfl _ w3.heap.size _ _ g Y5.out rfl rfl L5.out Z5.out.size ?_; intro v' w' ho hg; have YE := hide ho; have ZE := hide (below_own Z5.out Y5.out hg Z5.out.size); clear ho hg)
                    | (at_builtin; go_must (refine wpList_appB rfl (.tmp 67) (.tmp 68) rfl _ w3.heap.size _ _ sb YE.out rfl rfl L6.out ZE.out.size ?_); intro v' w' ho hg; rw [HJ.out] at ho; have YF := hide ho; have ZF := hide (below_own ZE.out YE.out hg ZE.out.size); clear ho hg))
                  exact ⟨⟨j + 1, by omega, by go_num, ZF, YF⟩, by simp [intOf]; omega⟩
              · obtain rfl : j = q := by omega
                have HE := hide (show PR ++ jw g true ((ws.take j).map bs) ++ g ++ tl8 = bld g ((d.map Lx.ln).take (k + 1)) by
                  rw [HN.out, HQ.out, List.take_length]
                  simp)
                have L5 := hide (show (PR ++ jw g true ((ws.take j).map bs)).length + g.length ≤ 1000000000000 by
                  have := LP.out
                  have := LJ.out
                  have := HG.out.2.1
                  rw [List.length_append]
                  omega)
                have L6 := hide (show (PR ++ jw g true ((ws.take j).map bs) ++ g).length + tl8.length ≤ 1000000000000 by
                  have := LP.out
                  have := LJ.out
                  have := HG.out.2.1
                  rw [List.length_append, List.length_append]
                  simp only [List.length_cons, List.length_nil]
                  omega)
                go_wp2_with (first
                  | (at_builtin; refine wpList_appB rfl (.tmp 71) (.tmp 72) rfl _ w3.heap.size _ _ g Y5.out rfl rfl L5.out Z5.out.size ?_; intro v' w' ho hg; have YE := hide ho; have ZE := hide (below_own Z5.out Y5.out hg Z5.out.size); clear ho hg)
                  | (at_builtin; go_must (refine wpList_appB rfl (.tmp 74) _ rfl _ w3.heap.size _ _ tl8 YE.out rfl rfl L6.out ZE.out.size ?_); intro v' w' ho hg; rw [HE.out] at ho; have YF := hide ho; have ZF := hide (below_own ZE.out YE.out hg ZE.out.size); clear ho hg))
                exact ⟨⟨k + 1, by omega, by go_num, ZF, YF⟩, by simp [intOf]; omega⟩
        · obtain rfl : k = n1 := by omega
          obtain ⟨s, hs⟩ : ∃ s, bld g (d.map Lx.ln) = s := ⟨_, rfl⟩
          have hall : (d.map Lx.ln).take k = d.map Lx.ln := by
            have h1 : k = (d.map Lx.ln).length := by rw [List.length_map]; exact HN1.out
            rw [h1, List.take_length]
          rw [hall, hs] at Y
          have hsl : s.length ≤ 240000000000 := by
            have := FIT.out k
            rw [hall, hs] at this
            exact this
          have hconv := b_conv Y.out
          obtain ⟨t1, t2, t3⟩ := T2.out
          have hok : ∀ l ∈ d.map Lx.ln, OkL l := by rw [t3]; exact good_ok 0 _ t2
          have hmain := bld_main HG.out (d.map Lx.ln) 0 hok
          rw [hs, List.length_map, ← HN1.out] at hmain
          have HM := hide hmain
          have zs : (ba s).size = s.length := ba_size s
          have F3 := hide (fun W => flines_f s W (by omega))
          obtain ⟨S, hS⟩ : ∃ S, ba s = S := ⟨_, rfl⟩
          rw [hS] at F3 zs hconv
          have ZS := hide zs
          have hss : S.size ≤ 240000000000 := by omega
          clear hS hmain hok t1 t2 t3 hsl hall hs zs
          obtain ⟨wS, rfl⟩ : ∃ wS, wS = wr := ⟨_, rfl⟩
          go_wp2_with fail
          refine (F3.out wS).mono ?_
          rintro e w5 hf
          obtain ⟨A3, n3, c3, e3, k3, d3, rfl, t3, l3, bx⟩ := fl_form hf
          have T3 := hide t3
          have L3 := hide l3
          have Z3 := hide (bstep Z.out Z.out.size bx)
          have B3 := hide (bstep B1.out B1.out.size Z3.out)
          have C3 := hide bx
          have S3 := hide Z.out.size
          clear hf t3 l3 bx F3 hconv Y Z
          rcases T3.out with ⟨g1, rfl, rfl, h4, rfl⟩ | ⟨g1, (⟨r, h, -⟩ | ⟨h, rfl, h5, -, m1⟩)⟩
          · injection h4 with _ h4 _
            subst h4
            have q2 : decide ((65536 : Int) < (S.size : Int)) = true := decide_eq_true (by have := ZS.out; omega)
            clear g1 T3
            go_wp2_with fail
            go_ret
            exact ⟨rfl, B3.out⟩
          · have := HM.out.1
            rw [this] at h
            cases h
          · have q2 : decide ((65536 : Int) < (S.size : Int)) = false := decide_eq_false (by have := ZS.out; omega)
            have hm3 := HM.out.2.2
            obtain rfl : k3 = 3 * (k : Int) := by rw [h5, hm3]; omega
            have h2 := HM.out.2.1
            rw [← m1] at h2
            have hn3 : n3 = d3.length := own_len8 L3.out.1
            have hl3 : d3.length = d.length := by have := congrArg List.length h2; simpa using this
            obtain rfl : n3 = k := by have := HN1.out; omega
            have H2 := hide h2
            have HL := hide hl3
            have p0 : ((n3 : Int) != (n3 : Int)) = false := by simp
            have p1 : ((3 * (n3 : Int)) != (3 * (n3 : Int))) = false := by simp
            have U0 := hide (nosTo.zero d3 d)
            have HG3 := hide (fun g (h : (Value.slice A3 n3 c3).ownBlock = some g) => (L3.out.1.lt h))
            clear g1 T3 h h5 m1 h2 hn3 hl3 hm3 HM
            go_wp2_with fail
            go_loopw [112] (fun iv wr => ∃ (j : Nat) (dk : List Lx), j ≤ n3 ∧ iv = .int .i64 (j : Int) ∧ Hid (nosTo d3 d j dk) ∧ Hid (Lg wr wS.heap.size (.slice A3 n3 c3) dk) ∧ Hid (Below wS.heap.size wS wr) ∧ Hid (Below w3.heap.size w3 wr)) (fun iv _ => n3 - (intOf iv).toNat)
            case atStart => exact ⟨0, d3, Nat.zero_le _, rfl, U0, L3, C3, Z3⟩
            case round =>
              obtain ⟨j, dk, hj, rfl, U, X, C, D⟩ := hrel
              by_cases hjt : j < n3
              · obtain ⟨y, hy⟩ := at8 (d := dk) (k := j) (by rw [U.out.1, HL.out, ← HN1.out]; exact hjt)
                obtain ⟨v, hv⟩ := at8 (d := d) (k := j) (by rw [← HN1.out]; exact hjt)
                have hA : ∃ g, A3 = some ⟨g, 0, none⟩ := by
                  rcases X.out.1.form with ⟨_, e⟩ | ⟨g, cap, cur, e, _⟩
                  · rw [e] at hy
                    cases hy
                  · injection e with e
                    exact ⟨g, e⟩
                obtain ⟨g3, rfl⟩ := hA
                obtain ⟨c0, f0⟩ := X.out.cells hy
                obtain ⟨hg3, hg4⟩ := HG3.out g3 rfl
                obtain ⟨b, off, rfl, hb, hcs⟩ := (L1.out.lv.1.step D.out).get hv
                have e0 : wr.cell? ⟨b, off + j * 3, none⟩ = some (.int .i64 (v.no : Int)) := by have := hcs 0 _ rfl; rwa [Nat.add_zero] at this
                have l0 : (0 : Int) ≤ (j : Int) := by omega
                have l1 : (j : Int) < (n3 : Int) := by omega
                have X3 := hide (X.out.put hy v.no)
                have U3 := hide (U.out.next hy hv)
                have C4 := hide (C.out.setCell (p := ⟨g3, j * 3, none⟩) hg3 (.int .i64 (v.no : Int)))
                have D4 := hide (D.out.setCell (p := ⟨g3, j * 3, none⟩) (show w3.heap.size ≤ g3 from Nat.le_trans S3.out hg3) (.int .i64 (v.no : Int)))
                clear hy hv hb hcs X U C D hg3 hg4
                go_wp2_with fail
                exact ⟨⟨j + 1, _, by omega, by go_num, U3, X3, C4, D4⟩, by simp [intOf]; omega⟩
              · obtain rfl : j = n3 := by omega
                have UD := hide ((show nosTo d3 d d3.length dk from by have h := U.out; rwa [HL.out, ← HN1.out]).done H2.out)
                have BB := hide (bstep B1.out B1.out.size D.out)
                have SC := hide (same8 X.out.lv (L1.out.step D.out).lv UD.out)
                clear X U C D
                go_wp2_with fail
                refine SC.out.mono ?_
                rintro e w9 ⟨rfl, bx⟩
                have BF := hide (bstep BB.out BB.out.size bx)
                clear bx
                go_wp2_with fail
                go_ret
                exact ⟨rfl, BF.out⟩
end Go.Proofs.Ytinbeodihhjfmaa
