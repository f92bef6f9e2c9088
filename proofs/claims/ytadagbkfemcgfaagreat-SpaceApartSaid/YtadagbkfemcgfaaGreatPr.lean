/-
  Own work. Rows of what is to be committed, made by the call: append, store, read as what Commit is asked.
-/
import Derived.Test.YtadagbkfemcgfaaGreatQb
namespace Go.Proofs.YtadagbkfemcgfaaGreat
open Go.RowKit Go.Maps
set_option linter.unusedVariables false
set_option linter.unusedSimpArgs false

theorem infoPuZ : ∃ ie z, Tryz.prog.info? 115 = some ie ∧ ie.zero = some z ∧ ie.size = 2 ∧ ie.bytes = 32 ∧ z.cells.size = 2 := by
  have h : (Tryz.prog.info? 115).map (fun i => (i.size, i.bytes, i.zero.map (fun z => z.cells.size))) = some (2, 32, some 2) := by kernel_rfl
  cases hi : Tryz.prog.info? 115 with
  | none => rw [hi] at h; cases h
  | some ie =>
    rw [hi] at h
    simp only [Option.map_some, Option.some.injEq, Prod.mk.injEq] at h
    cases hz : ie.zero with
    | none => rw [hz] at h; simp at h
    | some z =>
      rw [hz] at h
      simp only [Option.map_some, Option.some.injEq] at h
      exact ⟨ie, z, rfl, hz, h.1, h.2.1, h.2.2⟩
/-- An element: the home, the slice, its bytes. -/
structure PuR where
  i : Int
  A : Option Addr
  q : Nat
  c : Nat
  d : List UInt8
def puC (x : PuR) : List Value := [.int .i64 x.i, .slice x.A x.q x.c]
def puL (l : List PuR) : List Pu := l.map fun x => ⟨x.i, x.d⟩
/-- A row of them of the call's own. -/
structure PRow (w : World) (base : Nat) (v : Value) (l : List PuR) : Prop where
  own : w.ownsRow base 115 2 v l.length (l.flatMap puC)
  dat : ∀ x ∈ l, HasB w w.heap.size x.A x.q x.d ∧ x.q ≤ x.c ∧ ∀ a, x.A = some a → v.ownBlock ≠ some a.block
  rng : ∀ x ∈ l, -9223372036854775808 ≤ x.i ∧ x.i ≤ 9223372036854775807
theorem puFlat_len (l : List PuR) : (l.flatMap puC).length = l.length * 2 := by
  induction l with
  | nil => rfl
  | cons x l ih => rw [List.flatMap_cons, List.length_append, ih]; show 2 + l.length * 2 = (l.length + 1) * 2; omega
theorem flat_at : ∀ (l : List PuR) (k : Nat) (x : PuR), l[k]? = some x → (l.flatMap puC)[k * 2]? = some (.int .i64 x.i) ∧ (l.flatMap puC)[k * 2 + 1]? = some (.slice x.A x.q x.c)
  | [], _, _, h => by simp at h
  | y :: l, 0, x, h => by
    simp only [List.getElem?_cons_zero, Option.some.injEq] at h
    subst h
    exact ⟨rfl, rfl⟩
  | y :: l, k + 1, x, h => by
    have := flat_at l k x (by simpa using h)
    rw [List.flatMap_cons, show (k + 1) * 2 = k * 2 + 2 by omega]
    exact this
section
variable {w w' : World} {base n c : Nat} {A : Option Addr} {v : Value} {l : List PuR}
theorem PRow.nil (w : World) (base : Nat) : PRow w base (.slice none 0 0) [] := ⟨⟨rfl, .inl ⟨rfl, rfl⟩⟩, fun x hx => absurd hx (by simp), fun x hx => absurd hx (by simp)⟩
theorem PRow.form (h : PRow w base v l) : (v = .slice none 0 0 ∧ l = []) ∨ ∃ g c cur, v = .slice (some ⟨g, 0, none⟩) l.length c ∧ base ≤ g ∧ w.heap[g]? = some (.cells cur 115 (0, 0)) ∧ l.length ≤ c ∧ cur.size = c * 2 ∧ cur.toList.take (l.length * 2) = l.flatMap puC := by
  rcases h.own.2 with ⟨e, hn⟩ | ⟨g, c, cur, e, hb, hg, hn, hc, hs, ht⟩
  · exact .inl ⟨e, List.eq_nil_of_length_eq_zero hn⟩
  · exact .inr ⟨g, c, cur, e, hb, hg, hn, hs, ht⟩
theorem PRow.slice (h : PRow w base v l) : ∃ A c, v = .slice A l.length c := by
  rcases h.form with ⟨e, rfl⟩ | ⟨g, c, cur, e, _⟩
  · exact ⟨_, _, e⟩
  · exact ⟨_, _, e⟩
theorem PRow.len (h : PRow w base (.slice A n c) l) : n = l.length := by
  obtain ⟨A', c', e⟩ := h.slice
  simp only [Value.slice.injEq] at e
  exact e.2.1
theorem PRow.row (h : PRow w base (.slice A n c) l) (hn : 0 < n) : ∃ g cur, A = some ⟨g, 0, none⟩ ∧ base ≤ g ∧ w.heap[g]? = some (.cells cur 115 (0, 0)) ∧ l.length * 2 ≤ cur.size ∧ cur.toList.take (l.length * 2) = l.flatMap puC ∧ n ≤ c ∧ cur.size = c * 2 := by
  have hl := h.len
  rcases h.form with ⟨e, rfl⟩ | ⟨g, c', cur, e, hb, hg, hc, hs, ht⟩
  · simp at hl; omega
  · simp only [Value.slice.injEq] at e
    obtain ⟨rfl, -, rfl⟩ := e
    exact ⟨g, cur, rfl, hb, hg, by omega, ht, by omega, hs⟩
theorem cur_at {cur : Array Value} {xs : List Value} {m j : Nat} {u : Value} (h : cur.toList.take m = xs) (hu : xs[j]? = some u) : cur[j]? = some u := by
  rw [← h, List.getElem?_take] at hu
  split at hu
  · simpa using hu
  · cases hu
theorem PRow.cells {g : Nat} (h : PRow w base (.slice (some ⟨g, 0, none⟩) n c) l) {k : Nat} {x : PuR} (hx : l[k]? = some x) : w.cell? ⟨g, k * 2, none⟩ = some (.int .i64 x.i) ∧ w.cell? ⟨g, k * 2 + 1, none⟩ = some (.slice x.A x.q x.c) := by
  have hk := (List.getElem?_eq_some_iff.1 hx).1
  obtain ⟨g', cur, e, _, hg, hs, ht, _⟩ := h.row (by rw [h.len]; omega)
  simp only [Option.some.injEq, Addr.mk.injEq, and_true] at e
  subst e
  obtain ⟨h1, h2⟩ := flat_at l k x hx
  exact ⟨(cell_of_row w g _ _ _ (0, 0) hg).trans (cur_at ht h1), (cell_of_row w g _ _ _ (0, 0) hg).trans (cur_at ht h2)⟩
theorem PRow.below (h : PRow w base v l) (hb : Below w.heap.size w w') : PRow w' base v l := by
  refine ⟨⟨h.own.1, ?_⟩, fun x hx => ?_, h.rng⟩
  · rcases h.own.2 with h2 | ⟨g, c, cur, e, h3, hg, r⟩
    · exact .inl h2
    · exact .inr ⟨g, c, cur, e, h3, by rw [hb.block g (Array.getElem?_eq_some_iff.1 hg).1]; exact hg, r⟩
  · obtain ⟨h1, h2, h3⟩ := h.dat x hx
    exact ⟨h1.on hb, h2, h3⟩
theorem PRow.puts (h : PRow w base (.slice A n c) l) : HasPu w A n (puL l) := by
  have hl := h.len
  refine ⟨by rw [hl]; unfold puL; rw [List.length_map], fun y hy => ?_, fun hn => ?_⟩
  · obtain ⟨x, hx, rfl⟩ := List.mem_map.1 hy
    exact h.rng x hx
  · obtain ⟨g, cur, rfl, _, hg, _⟩ := h.row hn
    refine ⟨g, 0, rfl, (Array.getElem?_eq_some_iff.1 hg).1, fun k y hy => ?_⟩
    unfold puL at hy
    rw [List.getElem?_map] at hy
    cases hx : l[k]? with
    | none => rw [hx] at hy; cases hy
    | some x =>
      rw [hx] at hy
      simp only [Option.map_some, Option.some.injEq] at hy
      subst hy
      obtain ⟨h1, h2⟩ := h.cells hx
      obtain ⟨d1, d2, _⟩ := h.dat x (List.mem_of_getElem? hx)
      exact ⟨x.A, x.q, x.c, by rw [Nat.zero_add]; exact h1, by rw [Nat.zero_add]; exact h2, d1, d2⟩
theorem HasB.far {w w' : World} {A : Option Addr} {q : Nat} {d : List UInt8} {S : Nat → Prop} (h : HasB w w.heap.size A q d) (ho : Only S w w') (hS : ∀ a, A = some a → ¬ S a.block) : HasB w' w'.heap.size A q d := by
  refine ⟨h.1, fun hq => ?_⟩
  obtain ⟨g, o, e, hg, hc⟩ := h.2 hq
  exact ⟨g, o, e, Nat.lt_of_lt_of_le hg ho.size, fun i b hb => cell_only ho (hS _ e) (hc i b hb)⟩
/-- Where only one element's cells are written. -/
theorem PRow.set {g k : Nat} {y : PuR} (h : PRow w base (.slice (some ⟨g, 0, none⟩) n c) l) (hk : k < l.length) (cur : Array Value) (hg : w.heap[g]? = some (.cells cur 115 (0, 0)))
    (hd : HasB w w.heap.size y.A y.q y.d) (hc : y.q ≤ y.c) (hf : ∀ a, y.A = some a → g ≠ a.block) (hr : -9223372036854775808 ≤ y.i ∧ y.i ≤ 9223372036854775807) :
    PRow (w.setRow g (cur.toList.take (k * 2) ++ puC y ++ cur.toList.drop (k * 2 + 2)).toArray) base (.slice (some ⟨g, 0, none⟩) n c) (l.set k y) := by
  obtain ⟨g', cur', e, hb, hg', hs, ht, hnc, hcs⟩ := h.row (by rw [h.len]; omega)
  simp only [Option.some.injEq, Addr.mk.injEq, and_true] at e
  subst e
  rw [hg] at hg'
  simp only [Option.some.injEq, Obj.cells.injEq, and_true] at hg'
  subst hg'
  have ho : Only (fun j => j = g) w (w.setRow g (cur.toList.take (k * 2) ++ puC y ++ cur.toList.drop (k * 2 + 2)).toArray) := (Only.refl _ w).setRow (S := fun j => j = g) rfl _
  have hlen := h.len
  have hcl : cur.toList.length = cur.size := Array.length_toList
  refine ⟨⟨by rw [puFlat_len, List.length_set], .inr ⟨g, c, _, by rw [List.length_set, ← hlen], hb, setRow_heap w g _ _ _ _ hg, by rw [List.length_set, ← hlen]; exact hnc, ?_, ?_, ?_⟩⟩, fun x hx => ?_, fun x hx => ?_⟩
  · have := h.own.2
    rcases this with ⟨e, _⟩ | ⟨g2, c2, cur2, e, _, _, _, hm, _⟩
    · cases e
    · simp only [Value.slice.injEq] at e
      rw [e.2.2]
      exact hm
  · rw [List.size_toArray, List.length_append, List.length_append, List.length_take, List.length_drop, hcl]
    show min (k * 2) cur.size + 2 + (cur.size - (k * 2 + 2)) = c * 2
    omega
  · rw [List.length_set]
    show (cur.toList.take (k * 2) ++ puC y ++ cur.toList.drop (k * 2 + 2)).take (l.length * 2) = _
    apply List.ext_getElem?
    intro j
    rw [List.getElem?_take]
    have hpl : (puC y).length = 2 := rfl
    have htl : (cur.toList.take (k * 2)).length = k * 2 := by rw [List.length_take]; omega
    have key : ∀ (l : List PuR) (k j : Nat) (y : PuR), k < l.length → ((l.set k y).flatMap puC)[j]? = if j < k * 2 then (l.flatMap puC)[j]? else if j < k * 2 + 2 then (puC y)[j - k * 2]? else (l.flatMap puC)[j]? := by
      intro l
      induction l with
      | nil => intro k j y hk; simp at hk
      | cons a l ih =>
        intro k j y hk
        cases k with
        | zero =>
          rw [List.set_cons_zero, List.flatMap_cons, List.flatMap_cons]
          by_cases hj : j < 2
          · rw [if_neg (by omega), if_pos (by omega), List.getElem?_append_left (by show j < 2; exact hj)]
            rfl
          · rw [if_neg (by omega), if_neg (by omega), List.getElem?_append_right (by show 2 ≤ j; omega), List.getElem?_append_right (by show 2 ≤ j; omega)]
            rfl
        | succ k =>
          rw [List.set_cons_succ, List.flatMap_cons, List.flatMap_cons]
          by_cases hj : j < 2
          · rw [List.getElem?_append_left (by show j < 2; exact hj), if_pos (by omega), List.getElem?_append_left (by show j < 2; exact hj)]
          · have hp : (puC a).length = 2 := rfl
            rw [List.getElem?_append_right (by omega), List.getElem?_append_right (by omega), hp, ih k (j - 2) y (by rw [List.length_cons] at hk; omega)]
            by_cases h1 : j - 2 < k * 2
            · rw [if_pos h1, if_pos (by omega)]
            · have e1 : ¬ j < (k + 1) * 2 := by omega
              rw [if_neg h1, if_neg e1]
              by_cases h2 : j - 2 < k * 2 + 2
              · have e2 : j < (k + 1) * 2 + 2 := by omega
                rw [if_pos h2, if_pos e2, show j - 2 - k * 2 = j - (k + 1) * 2 by omega]
              · have e2 : ¬ j < (k + 1) * 2 + 2 := by omega
                rw [if_neg h2, if_neg e2]
    rw [key l k j y hk]
    by_cases hj0 : j < l.length * 2
    · rw [if_pos hj0]
      have hold : cur.toList[j]? = (l.flatMap puC)[j]? := by rw [← ht, List.getElem?_take, if_pos hj0]
      by_cases h1 : j < k * 2
      · rw [if_pos h1, List.append_assoc, List.getElem?_append_left (by omega), List.getElem?_take, if_pos h1, hold]
      · rw [if_neg h1]
        by_cases h2 : j < k * 2 + 2
        · rw [if_pos h2, List.getElem?_append_left (by rw [List.length_append]; omega), List.getElem?_append_right (by omega), htl]
        · rw [if_neg h2, List.getElem?_append_right (by rw [List.length_append]; omega), List.length_append, htl, hpl, List.getElem?_drop, show k * 2 + 2 + (j - (k * 2 + 2)) = j by omega, hold]
    · rw [if_neg hj0, if_neg (by omega), if_neg (by omega), List.getElem?_eq_none (by rw [puFlat_len]; omega)]
  · rcases List.mem_or_eq_of_mem_set hx with hx | hx
    · obtain ⟨d1, d2, d3⟩ := h.dat x hx
      exact ⟨d1.far ho (fun a ha hh => d3 a ha (by show some g = _; rw [hh])), d2, d3⟩
    · subst hx
      exact ⟨hd.far ho (fun a ha hh => hf a ha hh.symm), hc, fun a ha hh => hf a ha (by injection hh)⟩
  · rcases List.mem_or_eq_of_mem_set hx with hx | hx
    · exact h.rng x hx
    · subst hx; exact hr
end
/-- append of one. -/
theorem wp_app_pu {w : World} {ops : Array Oper} {rest : List Oper} {o : Oper} {a : Act} {Q : Exit → Act → World → Prop} (hgd : o.guard = none) (s x : Operand)
    (ho : o.op = .call { callee := .builtin .append, args := #[s, x], argTypes := #[79, 79] })
    (base : Nat) (v : Value) (l : List PuR) (hev : a.eval s = v) (hown : PRow w base v l) (g m : Nat) (y : PuR) (hx : a.eval x = .slice (some ⟨g, 0, none⟩) 1 m) (hg : w.heap[g]? = some (.cells (puC y).toArray 115 (0, 0)))
    (hd : HasB w w.heap.size y.A y.q y.d) (hc : y.q ≤ y.c) (hf : ∀ b, y.A = some b → v.ownBlock ≠ some b.block ∧ b.block < w.heap.size) (hr : -9223372036854775808 ≤ y.i ∧ y.i ≤ 9223372036854775807)
    (hlt : ∀ x ∈ l, ∀ b, x.A = some b → b.block < w.heap.size)
    (hlen : l.length ≤ 100000) (hbase : base ≤ w.heap.size)
    (h : ∀ A' n' c' w', PRow w' base (.slice A' n' c') (l ++ [y]) → Below base w w' → (∀ x ∈ l ++ [y], ∀ b, x.A = some b → b.block < w'.heap.size) → wpList Tryz.prog ops Q rest (a.put o.dst (.slice A' n' c')) w') : wpList Tryz.prog ops Q (o :: rest) a w := by
  obtain ⟨ie, z, hie, hz, hs, hby, hzs⟩ := infoPuZ
  have hlt2 : ∀ k, v.ownBlock = some k → base ≤ k ∧ k < w.heap.size := World.ownsRow.lt hown.own
  refine wpList_append_own_at w hgd s x _ ho base _ ie z 2 32 Tryz.underlying79 hie hz hs hby hzs (by decide) v l.length (l.flatMap puC) hev hown.own ⟨g, 0, none⟩ 1 m (puC y) hx rfl (fun j u hu => ?_) ?_ (by simp only [maxLen]; omega) (by omega) hbase ?_
  · rw [Addr.add_lit, Nat.zero_add, cell_of_row w g j _ _ (0, 0) hg]
    simpa using hu
  · intro u hu
    simp only [puC, List.mem_cons, List.not_mem_nil, or_false] at hu
    rcases hu with rfl | rfl <;> rfl
  · intro v' w' hown' hgr _ hat
    have ho := Only.grownO hgr
    have e : (l.flatMap puC) ++ puC y = (l ++ [y]).flatMap puC := by simp
    have hsz := ho.size
    have hdat : ∀ x ∈ l ++ [y], HasB w w.heap.size x.A x.q x.d ∧ x.q ≤ x.c ∧ (∀ b, x.A = some b → v.ownBlock ≠ some b.block ∧ b.block < w.heap.size) := by
      intro x hx
      rcases List.mem_append.1 hx with hx | hx
      · obtain ⟨d1, d2, d3⟩ := hown.dat x hx
        exact ⟨d1, d2, fun b hb => ⟨d3 b hb, hlt x hx b hb⟩⟩
      · rw [List.mem_singleton] at hx
        subst hx
        exact ⟨hd, hc, hf⟩
    have hP : PRow w' base v' (l ++ [y]) := by
      refine ⟨?_, fun x hx => ?_, fun x hx => ?_⟩
      · rw [← e, List.length_append]
        exact hown'
      · obtain ⟨d1, d2, d3⟩ := hdat x hx
        refine ⟨d1.far ho (fun b hb hh => (d3 b hb).1 hh), d2, fun b hb hh => ?_⟩
        rcases hat with h1 | h1
        · rw [h1] at hh; exact (d3 b hb).1 hh
        · rw [h1] at hh
          injection hh with hh
          have := (d3 b hb).2
          omega
      · rcases List.mem_append.1 hx with hx | hx
        · exact hown.rng x hx
        · rw [List.mem_singleton] at hx; subst hx; exact hr
    obtain ⟨A', c', rfl⟩ := hP.slice
    exact h A' _ c' w' hP ((Below.refl base w).grown hgr hbase fun k hk => (hlt2 k hk).1) (fun x hx b hb => by have := ((hdat x hx).2.2 b hb).2; omega)
theorem wpList_store_partL {P : Program} {ops : Array Oper} {rest : List Oper} {o : Oper} {a : Act} {w : World} {Q : Exit → Act → World → Prop} (hgd : o.guard = none) (ty : TypeId) (x y : Operand) (ho : o.op = .store ty x y)
    (g off : Nat) (cells : Array Value) (hx : a.eval x = .pointer (some ⟨g, off, none⟩)) (hy : a.eval y = .agg cells)
    (t : TypeId) (cur : Array Value) (hg : w.heap[g]? = some (.cells cur t (0, 0))) (hi : (P.info? ty).map (·.size) = some cells.size) (hfit : off + cells.size ≤ cur.size) (h1 : ∀ v ∈ cells.toList, v.oneCell' = true)
    (h : wpList P ops Q rest (a.put o.dst undef) (w.setRow g (cur.toList.take off ++ cells.toList ++ cur.toList.drop (off + cells.size)).toArray)) : wpList P ops Q (o :: rest) a w := by
  refine BigFrame.wpList_want (by simp [Region.wanted, hgd]) fun K hK => ?_
  unfold Oper.wp execOp
  simp only [ho, hx, hy, Instr.storeAt, Instr.sureAddr, Sem.run_bind, Sem.run_pure, Result.andThen_ok, run_storeVar_part w g off t ty cur cells hg hi hfit h1]
  exact hK _ _ h
end Go.Proofs.YtadagbkfemcgfaaGreat
