/-
  Own work. The journal: rows of changes made (build, append), what is asked to be committed in memory, changesOf.
-/
import Derived.Test.YtadagbkfemcgfaaGreatJt
import Derived.Test.YtadagbkfemcgfaaGreatFs
namespace Go.Proofs.YtadagbkfemcgfaaGreat
open Go.RowKit Go.Maps
set_option linter.unusedVariables false
set_option linter.unusedSimpArgs false

theorem built_fillC (parts : List (Nat × Value)) : Tryz.prog.built 133 parts = Instr.fill (#[(0, 1), (1, 512)][·]?) Tryz.zeroCells133 parts := by kernel_rfl
theorem built_ch (h : Int) (d : List UInt8) (hd : d.length = 512) : Tryz.prog.built 133 [(0, .int .i64 h), (1, .agg (cellsB d).toArray)] = some (.int .i64 h :: cellsB d).toArray := by
  obtain ⟨z, hz⟩ : ∃ z, Tryz.zeroCells133 = z := ⟨_, rfl⟩
  have hs : z.size = 513 := by rw [← hz]; exact zcCh
  rw [built_fillC, hz]
  rw [fill_step _ _ 0 _ _ 0 1 rfl rfl (by omega)]
  have e1 : (z.toList.take 0 ++ (Value.int .i64 h).cells.toList ++ z.toList.drop (0 + 1)) = .int .i64 h :: z.toList.drop 1 := rfl
  have hz1 : (z.toList.drop 1).length = 512 := by rw [List.length_drop, Array.length_toList, hs]
  rw [e1, fill_step _ _ 1 _ _ 1 512 rfl (by show (cellsB d).toArray.size = 512; rw [cellsB_size]; exact hd) (by rw [List.size_toArray, List.length_cons, hz1]; decide)]
  show some _ = some _
  congr 1
  apply Array.toList_inj.1
  show (Value.int .i64 h :: z.toList.drop 1).take 1 ++ cellsB d ++ (Value.int .i64 h :: z.toList.drop 1).drop (1 + 512) = Value.int .i64 h :: cellsB d
  have e2 : (Value.int .i64 h :: z.toList.drop 1).drop (1 + 512) = [] := List.drop_eq_nil_of_le (by rw [List.length_cons, hz1]; decide)
  rw [e2, List.append_nil]
  rfl
theorem infoChZ : ∃ ie z, Tryz.prog.info? 133 = some ie ∧ ie.zero = some z ∧ ie.size = 513 ∧ ie.bytes = 520 ∧ z.cells.size = 513 := by
  have h : (Tryz.prog.info? 133).map (fun i => (i.size, i.bytes, i.zero.map (fun z => z.cells.size))) = some (513, 520, some 513) := by kernel_rfl
  cases hi : Tryz.prog.info? 133 with
  | none => rw [hi] at h; cases h
  | some ie =>
    rw [hi] at h
    simp only [Option.map_some, Option.some.injEq, Prod.mk.injEq] at h
    cases hz : ie.zero with
    | none => rw [hz] at h; simp at h
    | some z =>
      rw [hz] at h
      simp only [Option.map_some, Option.some.injEq] at h
      exact ⟨ie, z, rfl, hz, h.1, h.2.1, h.2.2⟩
/-- A slice of one change. -/
theorem wp_slice_ch {w : World} {ops : Array Oper} {rest : List Oper} {o : Oper} {a : Act} {Q : Exit → Act → World → Prop} (hg : o.guard = none) (x : Operand) (ho : o.op = .buildSlice 106 1 #[(0, x)]) (c : Ch) (hc : c.data.length = 512) (hx : a.eval x = .agg (chC c).toArray)
    (h : wpList Tryz.prog ops Q rest (a.put o.dst (.slice (some ⟨w.heap.size, 0, none⟩) 1 1)) (w.alloc (.cells (chC c).toArray 133))) : wpList Tryz.prog ops Q (o :: rest) a w := by
  obtain ⟨ie, z, hie, hz, hs, _, hzs⟩ := infoChZ
  refine wpList_buildSlice hg _ _ 1 _ ho (chC c).toArray ie z Tryz.underlying106 hie hz (by rw [hs]; decide) (by rw [hs]; decide) ?_ h
  simp only [List.map_toArray, List.map_cons, List.map_nil, hx]
  obtain ⟨b0, hb0⟩ : ∃ b0 : Array Value, (Array.range (1 * ie.size)).map (z.cells[· % z.cells.size]!) = b0 := ⟨_, rfl⟩
  have hbs : b0.size = 513 := by rw [← hb0, Array.size_map, Array.size_range, hs]
  rw [hb0]
  have hlc : (chC c).toArray.size = 513 := by rw [@List.size_toArray _ (chC c)]; exact chC_len hc
  rw [fill_step (fun i => some (i * ie.size, ie.size)) b0 0 (.agg (chC c).toArray) [] 0 513 (by show some (0 * ie.size, ie.size) = some (0, 513); rw [hs]) hlc (by omega)]
  have e2 : b0.toList.drop (0 + 513) = [] := List.drop_eq_nil_of_le (by rw [Array.length_toList, hbs]; exact Nat.le_refl _)
  rw [e2, List.append_nil, List.take_zero, List.nil_append, Instr.fill]
  rfl
/-- A row of changes of the call's own. -/
def OwnC (w : World) (base : Nat) (v : Value) (l : List Ch) : Prop := w.ownsRow base 133 513 v l.length (rowC l)
section
variable {w w' : World} {base n c : Nat} {A : Option Addr} {v : Value} {l : List Ch}
theorem OwnC.nil (w : World) (base : Nat) : OwnC w base (.slice none 0 0) [] := ⟨rfl, .inl ⟨rfl, rfl⟩⟩
theorem OwnC.form (h : OwnC w base v l) : (v = .slice none 0 0 ∧ l = []) ∨ ∃ g c, v = .slice (some ⟨g, 0, none⟩) l.length c ∧ base ≤ g ∧ CB w g l := by
  rcases h.2 with ⟨e, hn⟩ | ⟨g, c, cur, e, hb, hg, hn, hc, hs', ht⟩
  · exact .inl ⟨e, List.eq_nil_of_length_eq_zero hn⟩
  · refine .inr ⟨g, c, e, hb, cur.toList.drop (l.length * 513), ?_⟩
    rw [hg, ← ht, List.take_append_drop]
theorem OwnC.slice (h : OwnC w base v l) : ∃ A n c, v = .slice A n c ∧ n = l.length := by
  rcases h.form with ⟨e, rfl⟩ | ⟨g, c, e, _, _⟩
  · exact ⟨_, _, _, e, rfl⟩
  · exact ⟨_, _, _, e, rfl⟩
theorem OwnC.row (h : OwnC w base (.slice A n c) l) (hn : 0 < n) : ∃ g, A = some ⟨g, 0, none⟩ ∧ n = l.length ∧ base ≤ g ∧ CB w g l := by
  rcases h.form with ⟨e, rfl⟩ | ⟨g, c', e, hb, hc⟩
  · simp only [Value.slice.injEq] at e; omega
  · simp only [Value.slice.injEq] at e
    obtain ⟨rfl, rfl, rfl⟩ := e
    exact ⟨g, rfl, rfl, hb, hc⟩
theorem OwnC.len (h : OwnC w base (.slice A n c) l) : n = l.length := by
  obtain ⟨A', n', c', e, hn⟩ := h.slice
  simp only [Value.slice.injEq] at e
  omega
theorem OwnC.lt (h : OwnC w base v l) : ∀ k, v.ownBlock = some k → base ≤ k ∧ k < w.heap.size := World.ownsRow.lt h
theorem OwnC.below (h : OwnC w base v l) (hb : Below w.heap.size w w') : OwnC w' base v l := by
  refine ⟨h.1, ?_⟩
  rcases h.2 with h2 | ⟨g, c, cur, e, h3, hg, r⟩
  · exact .inl h2
  · exact .inr ⟨g, c, cur, e, h3, by rw [hb.block g (Array.getElem?_eq_some_iff.1 hg).1]; exact hg, r⟩
end
/-- append of a change. -/
theorem wp_app_ch {w : World} {ops : Array Oper} {rest : List Oper} {o : Oper} {a : Act} {Q : Exit → Act → World → Prop} (hgd : o.guard = none) (s x : Operand)
    (ho : o.op = .call { callee := .builtin .append, args := #[s, x], argTypes := #[106, 106] })
    (base : Nat) (v : Value) (l : List Ch) (hev : a.eval s = v) (hown : OwnC w base v l) (g m : Nat) (c : Ch) (hc : c.data.length = 512) (hx : a.eval x = .slice (some ⟨g, 0, none⟩) 1 m) (hg : w.heap[g]? = some (.cells (chC c).toArray 133 (0, 0)))
    (hlen : l.length ≤ 100000) (hbase : base ≤ w.heap.size)
    (h : ∀ A' n' c' w', OwnC w' base (.slice A' n' c') (l ++ [c]) → Below base w w' → wpList Tryz.prog ops Q rest (a.put o.dst (.slice A' n' c')) w') : wpList Tryz.prog ops Q (o :: rest) a w := by
  obtain ⟨ie, z, hie, hz, hs, hby, hzs⟩ := infoChZ
  refine wpList_append_own_at w hgd s x _ ho base _ ie z 513 520 Tryz.underlying106 hie hz hs hby hzs (by decide) v l.length (rowC l) hev hown ⟨g, 0, none⟩ 1 m (chC c) hx (by rw [chC_len hc]) (fun j u hu => ?_) (chC_one c) (by simp only [maxLen]; omega) (by omega) hbase ?_
  · rw [Addr.add_lit, Nat.zero_add, cell_of_row w g j _ _ (0, 0) hg]
    simpa using hu
  · intro v' w' hown' hgr _ hat
    have hown2 : OwnC w' base v' (l ++ [c]) := by
      unfold OwnC
      rw [rowC_snoc, List.length_append]
      exact hown'
    obtain ⟨A', n', c', rfl, _⟩ := hown2.slice
    exact h A' n' c' w' hown2 ((Below.refl base w).grown hgr hbase fun k hk => (hown.lt k hk).1)
/-- What is asked to be committed, in memory. -/
def HasPu (w : World) (A : Option Addr) (n : Nat) (l : List Pu) : Prop :=
  n = l.length ∧ (∀ x ∈ l, -9223372036854775808 ≤ x.i ∧ x.i ≤ 9223372036854775807) ∧ (0 < n → ∃ g o, A = some ⟨g, o, none⟩ ∧ g < w.heap.size ∧ ∀ k x, l[k]? = some x → ∃ B q c, w.cell? ⟨g, o + k * 2, none⟩ = some (.int .i64 x.i) ∧ w.cell? ⟨g, o + k * 2 + 1, none⟩ = some (.slice B q c) ∧ HasB w w.heap.size B q x.data ∧ q ≤ c)
theorem HasPu.below {w w' : World} {A : Option Addr} {n : Nat} {l : List Pu} (h : HasPu w A n l) (hb : Below w.heap.size w w') : HasPu w' A n l := by
  refine ⟨h.1, h.2.1, fun hn => ?_⟩
  obtain ⟨g, o, e, hg, hc⟩ := h.2.2 hn
  refine ⟨g, o, e, Nat.lt_of_lt_of_le hg hb.size, fun k x hx => ?_⟩
  obtain ⟨B, q, c, h1, h2, h3, h4⟩ := hc k x hx
  exact ⟨B, q, c, (hb.cell hg).trans h1, (hb.cell hg).trans h2, h3.on hb, h4⟩
end Go.Proofs.YtadagbkfemcgfaaGreat
