/-
  Own work. Rows of the call's own that hold slices: append of one slice; integers in memory.
-/
import Derived.Test.YtkpmfpbeidhcbaaOf
namespace Go.Proofs.Ytkpmfpbeidhcbaa
open Go.RowKit
set_option linter.unusedVariables false
set_option linter.unusedSimpArgs false

theorem infoSl : (Try.prog.info? 22).map (fun i => (i.zero, i.size, i.bytes)) = some (some (.slice none 0 0), 1, 24) := by kernel_rfl

/-- A row of the call's own, from block base on, that holds the slices hs. -/
def OwnL (w : World) (base : Nat) (v : Value) (hs : List Value) : Prop := w.ownsRow base 22 1 v hs.length hs

section
variable {w w' : World} {base n c : Nat} {A : Option Addr} {v : Value} {hs : List Value}
theorem OwnL.nil (w : World) (base : Nat) : OwnL w base (.slice none 0 0) [] := ⟨by simp, .inl ⟨rfl, rfl⟩⟩
theorem OwnL.form (h : OwnL w base v hs) : (v = .slice none 0 0 ∧ hs = []) ∨ ∃ g c cur, v = .slice (some ⟨g, 0, none⟩) hs.length c ∧ base ≤ g ∧ g < w.heap.size ∧ w.heap[g]? = some (.cells cur 22 (0, 0)) ∧ hs.length ≤ c ∧ c ≤ maxLen ∧ cur.size = c ∧ cur.toList.take hs.length = hs := by
  rcases h.2 with ⟨e, hn⟩ | ⟨g, c, cur, e, hb, hg, hn, hc, hs', ht⟩
  · exact .inl ⟨e, List.eq_nil_of_length_eq_zero hn⟩
  · exact .inr ⟨g, c, cur, e, hb, (Array.getElem?_eq_some_iff.1 hg).1, hg, hn, hc, by simpa using hs', by simpa using ht⟩
theorem OwnL.len (h : OwnL w base (.slice A n c) hs) : n = hs.length := by
  rcases h.form with ⟨e, rfl⟩ | ⟨g, c', cur, e, _⟩
  · simp only [Value.slice.injEq] at e
    exact e.2.1
  · simp only [Value.slice.injEq] at e
    exact e.2.1
theorem OwnL.caps (h : OwnL w base (.slice A n c) hs) : n ≤ c ∧ c ≤ maxLen := by
  rcases h.form with ⟨e, rfl⟩ | ⟨g, c', cur, e, _, _, _, h1, h2, _⟩
  · simp only [Value.slice.injEq] at e
    obtain ⟨rfl, rfl, rfl⟩ := e
    exact ⟨Nat.le_refl _, by simp⟩
  · simp only [Value.slice.injEq] at e
    obtain ⟨rfl, rfl, rfl⟩ := e
    exact ⟨h1, h2⟩
theorem OwnL.kept {row : Option Nat} (h : OwnL w base v hs) (hg : w.grownBy w' row) (hne : v.ownBlock = none ∨ v.ownBlock ≠ row) : OwnL w' base v hs := World.ownsRow.kept h hg hne
theorem OwnL.alloc (h : OwnL w base v hs) (o : Obj) : OwnL (w.alloc o) base v hs := World.ownsRow.alloc h o
theorem OwnL.lt (h : OwnL w base v hs) : ∀ k, v.ownBlock = some k → base ≤ k ∧ k < w.heap.size := World.ownsRow.lt h
theorem OwnL.below (h : OwnL w base v hs) (hb : Below w.heap.size w w') : OwnL w' base v hs := by
  refine ⟨h.1, ?_⟩
  rcases h.2 with h2 | ⟨g, c, cur, e, h3, hg, r⟩
  · exact .inl h2
  · exact .inr ⟨g, c, cur, e, h3, by rw [hb.block g (Array.getElem?_eq_some_iff.1 hg).1]; exact hg, r⟩
/-- Its cells. -/
theorem OwnL.at_ (h : OwnL w base (.slice A n c) hs) (hn : 0 < n) : ∃ g, A = some ⟨g, 0, none⟩ ∧ base ≤ g ∧ g < w.heap.size ∧ ∀ i u, hs[i]? = some u → w.cell? ⟨g, i, none⟩ = some u := by
  have hl := h.len
  rcases h.form with ⟨e, rfl⟩ | ⟨g, c', cur, e, hb, hlt, hg, h1, h2, h3, h4⟩
  · simp at hl; omega
  · simp only [Value.slice.injEq] at e
    obtain ⟨rfl, -, rfl⟩ := e
    refine ⟨g, rfl, hb, hlt, fun i u hu => ?_⟩
    have := World.ownsRow.cells (w := w) h (g := g) rfl i u hu
    simpa [Addr.add_lit] using this
/-- A row of bytes is no row of slices. -/
theorem OwnL.apart {b2 : Nat} {u : Value} {l : List UInt8} (h : OwnL w base v hs) (h2 : OwnB w b2 u l) : u.ownBlock = none ∨ u.ownBlock ≠ v.ownBlock := by
  rcases h2.form with ⟨rfl, _⟩ | ⟨g, c, cur, rfl, _, _, hg, _⟩
  · exact .inl rfl
  · right
    intro e
    rcases h.form with ⟨rfl, _⟩ | ⟨g', c', cur', rfl, _, _, hg', _⟩
    · cases e
    · simp only [Value.ownBlock, Option.some.injEq] at e
      subst e
      rw [hg] at hg'
      simp only [Option.some.injEq, Obj.cells.injEq] at hg'
      exact absurd hg'.2.1 (by decide)
end

section
variable {P : Program} {w : World}
theorem wp_appL {ops : Array Oper} {rest : List Oper} {o : Oper} {a : Act} {Q : Exit → Act → World → Prop} (hgd : o.guard = none) (s x : Operand)
    (ho : o.op = .call { callee := .builtin .append, args := #[s, x], argTypes := #[23, 23] })
    (ht : P.underlying 23 = some (.slice 22)) (hi0 : (P.info? 22).map (fun i => (i.zero, i.size, i.bytes)) = some (some (.slice none 0 0), 1, 24))
    (base : Nat) (v : Value) (hs : List Value) (h : Value) (hv : a.eval s = v) (hown : OwnL w base v hs) (k off c : Nat) (hx : a.eval x = .slice (some ⟨k, off, none⟩) 1 c) (hc : w.cell? ⟨k, off, none⟩ = some h) (h1 : h.oneCell' = true)
    (hlen : hs.length ≤ 1000000) (hbase : base ≤ w.heap.size)
    (hK : ∀ A' n' c' w', OwnL w' base (.slice A' n' c') (hs ++ [h]) → w.grownBy w' v.ownBlock → Below base w w' → wpList P ops Q rest (a.put o.dst (.slice A' n' c')) w') : wpList P ops Q (o :: rest) a w := by
  refine wpList_plain hgd fun K hKK => ?_
  obtain ⟨i, hi, hz, hsz, hby⟩ := info_parts hi0
  obtain ⟨v', w', hr, h2, h3, _⟩ := run_append_own (P := P) w base 23 o.type 22 i (.slice none 0 0) 1 24 ht hi hz hsz hby rfl (by decide) v hs.length hs hown ⟨k, off, none⟩ 1 c [h] rfl
    (fun j u hu => by
      rcases j with _ | j
      · simp only [List.getElem?_cons_zero, Option.some.injEq] at hu
        subst hu
        rw [Addr.add_lit]
        exact hc
      · simp at hu) (fun u hu => by rw [List.mem_singleton.1 hu]; exact h1) (by simp only [maxLen]; omega) (by omega) hbase
  have h2' : OwnL w' base v' (hs ++ [h]) := by
    unfold OwnL
    rw [List.length_append]
    exact h2
  have hb : Below base w w' := (Below.refl base w).grown h3 hbase fun k hk => (hown.lt k hk).1
  rcases h2'.form with ⟨e, hn⟩ | ⟨g, c', cur, e, _⟩
  · simp at hn
  · subst e
    unfold Oper.wp execOp
    simp only [ho, resolve, invoke, builtin, Sem.run_bind, Sem.run_pure, Result.andThen_ok, List.map_toArray, List.map_cons, List.map_nil, hv, hx, hr]
    exact hKK _ _ (hK _ _ _ w' h2' h3 hb)
end

/-- Integers in memory. -/
def HasI (w : World) (B : Nat) (A : Option Addr) (n : Nat) (zs : List Int) : Prop :=
  n = zs.length ∧ (∀ z ∈ zs, -9223372036854775808 ≤ z ∧ z ≤ 9223372036854775807) ∧ (0 < n → ∃ g o, A = some ⟨g, o, none⟩ ∧ g < B ∧ ∀ i z, zs[i]? = some z → w.cell? ⟨g, o + i, none⟩ = some (.int .i64 z))
theorem HasI.below {w w' : World} {B n : Nat} {A : Option Addr} {zs : List Int} (h : HasI w B A n zs) (hb : Below B w w') : HasI w' B A n zs :=
  ⟨h.1, h.2.1, fun hn => by
    obtain ⟨g, o, e, hg, hc⟩ := h.2.2 hn
    exact ⟨g, o, e, hg, fun i z hz => (hb.cell (p := ⟨g, o + i, none⟩) hg).trans (hc i z hz)⟩⟩
theorem HasI.more {w : World} {B B' n : Nat} {A : Option Addr} {zs : List Int} (h : HasI w B A n zs) (hB : B ≤ B') : HasI w B' A n zs :=
  ⟨h.1, h.2.1, fun hn => by
    obtain ⟨g, o, e, hg, hc⟩ := h.2.2 hn
    exact ⟨g, o, e, by omega, hc⟩⟩
theorem HasI.on {w w' : World} {n : Nat} {A : Option Addr} {zs : List Int} (h : HasI w w.heap.size A n zs) (hb : Below w.heap.size w w') : HasI w' w'.heap.size A n zs := (h.below hb).more hb.size
theorem hasI_of_row {w : World} {a : Option Addr} {len cap : Nat} {zs : List Int}
    (h : (a = none ∧ len = 0 ∧ cap = 0 ∧ zs = []) ∨ ∃ x, a = some x ∧ len ≤ cap ∧ cap ≤ maxLen ∧ zs.length = cap ∧ (∀ i, i < zs.length → w.cell? (x.add i) = some (.int .i64 (zs.getD i 0))) ∧ ∀ n ∈ zs, (Lit.int .i64 n).wf = true) :
    ∃ l, HasI w w.heap.size a len l ∧ len ≤ cap ∧ cap ≤ maxLen := by
  rcases h with ⟨rfl, rfl, rfl, rfl⟩ | ⟨x, rfl, h1, h2, h3, hc, hw⟩
  · exact ⟨[], ⟨rfl, by simp, fun h => absurd h (by simp)⟩, by omega, by simp⟩
  · refine ⟨zs.take len, ⟨by simp; omega, fun z hz => bounds_i64 (hw z (List.mem_of_mem_take hz)), fun hl => ?_⟩, h1, h2⟩
    have c0 := hc 0 (by omega)
    obtain ⟨b, o, s⟩ := x
    have hs : s = none := by
      have := World.cell?_spot c0
      simpa [Addr.add] using this
    subst hs
    refine ⟨b, o, rfl, ?_, fun i u hu => ?_⟩
    · have := World.block_lt_of_cell? w _ c0
      simpa [Addr.add] using this
    · have hi : i < len := by
        have := (List.getElem?_eq_some_iff.1 hu).1
        simp at this
        omega
      have := hc i (by omega)
      rw [Addr.add_lit] at this
      rw [this]
      rw [List.getElem?_take, if_pos hi] at hu
      simp [List.getD, hu]
end Go.Proofs.Ytkpmfpbeidhcbaa
