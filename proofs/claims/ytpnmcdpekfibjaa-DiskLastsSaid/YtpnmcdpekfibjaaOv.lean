/-
  Own work. Rows of the call's own, of values of any type that takes one cell; append onto them.
-/
import Derived.Test.YtpnmcdpekfibjaaOn
namespace Go.Proofs.Ytpnmcdpekfibjaa
open Go.RowKit
set_option linter.unusedVariables false
set_option linter.unusedSimpArgs false

/-- A row of the call's own, from block base on, that holds the values hs, of type E. -/
def OwnV (E : TypeId) (w : World) (base : Nat) (v : Value) (hs : List Value) : Prop := w.ownsRow base E 1 v hs.length hs
section
variable {E : TypeId} {w w' : World} {base n c : Nat} {A : Option Addr} {v : Value} {hs : List Value}
theorem OwnV.nil (E : TypeId) (w : World) (base : Nat) : OwnV E w base (.slice none 0 0) [] := ⟨by simp, .inl ⟨rfl, rfl⟩⟩
theorem OwnV.empty (E : TypeId) (w : World) : OwnV E (w.alloc (.cells #[] E)) w.heap.size (.slice (some ⟨w.heap.size, 0, none⟩) 0 0) [] :=
  ⟨by simp, .inr ⟨w.heap.size, 0, #[], rfl, Nat.le_refl _, heap_alloc_new w _, Nat.le_refl _, by simp, by simp, by simp⟩⟩
theorem OwnV.form (h : OwnV E w base v hs) : (v = .slice none 0 0 ∧ hs = []) ∨ ∃ g c cur, v = .slice (some ⟨g, 0, none⟩) hs.length c ∧ base ≤ g ∧ g < w.heap.size ∧ w.heap[g]? = some (.cells cur E (0, 0)) ∧ hs.length ≤ c ∧ c ≤ maxLen ∧ cur.size = c ∧ cur.toList.take hs.length = hs := by
  rcases h.2 with ⟨e, hn⟩ | ⟨g, c, cur, e, hb, hg, hn, hc, hs', ht⟩
  · exact .inl ⟨e, List.eq_nil_of_length_eq_zero hn⟩
  · exact .inr ⟨g, c, cur, e, hb, (Array.getElem?_eq_some_iff.1 hg).1, hg, hn, hc, by simpa using hs', by simpa using ht⟩
theorem OwnV.len (h : OwnV E w base (.slice A n c) hs) : n = hs.length := by
  rcases h.form with ⟨e, rfl⟩ | ⟨g, c', cur, e, _⟩
  · simp only [Value.slice.injEq] at e
    exact e.2.1
  · simp only [Value.slice.injEq] at e
    exact e.2.1
theorem OwnV.caps (h : OwnV E w base (.slice A n c) hs) : n ≤ c ∧ c ≤ maxLen := by
  rcases h.form with ⟨e, rfl⟩ | ⟨g, c', cur, e, _, _, _, h1, h2, _⟩
  · simp only [Value.slice.injEq] at e
    obtain ⟨rfl, rfl, rfl⟩ := e
    exact ⟨Nat.le_refl _, by simp⟩
  · simp only [Value.slice.injEq] at e
    obtain ⟨rfl, rfl, rfl⟩ := e
    exact ⟨h1, h2⟩
theorem OwnV.slice (h : OwnV E w base v hs) : ∃ A n c, v = .slice A n c := by
  rcases h.form with ⟨e, rfl⟩ | ⟨g, c', cur, e, _⟩
  · exact ⟨_, _, _, e⟩
  · exact ⟨_, _, _, e⟩
theorem OwnV.kept {row : Option Nat} (h : OwnV E w base v hs) (hg : w.grownBy w' row) (hne : v.ownBlock = none ∨ v.ownBlock ≠ row) : OwnV E w' base v hs := World.ownsRow.kept h hg hne
theorem OwnV.alloc (h : OwnV E w base v hs) (o : Obj) : OwnV E (w.alloc o) base v hs := World.ownsRow.alloc h o
theorem OwnV.lt (h : OwnV E w base v hs) : ∀ k, v.ownBlock = some k → base ≤ k ∧ k < w.heap.size := World.ownsRow.lt h
theorem OwnV.only {S : Nat → Prop} (h : OwnV E w base v hs) (ho : Only S w w') (hS : ∀ k, v.ownBlock = some k → ¬ S k) : OwnV E w' base v hs := by
  refine ⟨h.1, ?_⟩
  rcases h.2 with h2 | ⟨g, c, cur, e, h3, hg, r⟩
  · exact .inl h2
  · exact .inr ⟨g, c, cur, e, h3, by rw [ho.block g (Array.getElem?_eq_some_iff.1 hg).1 (hS g (by rw [e]; rfl))]; exact hg, r⟩
theorem OwnV.below (h : OwnV E w base v hs) (hb : Below w.heap.size w w') : OwnV E w' base v hs :=
  h.only (S := fun _ => False) (Only.of_below hb (Nat.le_refl _)) (fun _ _ h => h)
theorem OwnV.drew (h : OwnV E w base v hs) : OwnV E w.drew base v hs := h
theorem OwnV.at_ (h : OwnV E w base (.slice A n c) hs) (hn : 0 < n) : ∃ g, A = some ⟨g, 0, none⟩ ∧ base ≤ g ∧ g < w.heap.size ∧ ∀ i u, hs[i]? = some u → w.cell? ⟨g, i, none⟩ = some u := by
  have hl := h.len
  rcases h.form with ⟨e, rfl⟩ | ⟨g, c', cur, e, hb, hlt, hg, h1, h2, h3, h4⟩
  · simp at hl; omega
  · simp only [Value.slice.injEq] at e
    obtain ⟨rfl, -, rfl⟩ := e
    refine ⟨g, rfl, hb, hlt, fun i u hu => ?_⟩
    have := World.ownsRow.cells (w := w) h (g := g) rfl i u hu
    simpa [Addr.add_lit] using this
end

/-- append of values that lie in a row onto a row of the call's own: what is handed back, and where it lies. -/
theorem wp_appV {P : Program} {w : World} {ops : Array Oper} {rest : List Oper} {o : Oper} {a : Act} {Q : Exit → Act → World → Prop} (hgd : o.guard = none) (s x : Operand) (T E : TypeId) (z : Value) (bytes : Nat)
    (ho : o.op = .call { callee := .builtin .append, args := #[s, x], argTypes := #[T, T] })
    (ht : P.underlying T = some (.slice E)) (hi0 : (P.info? E).map (fun i => (i.zero, i.size, i.bytes)) = some (some z, 1, bytes)) (hz1 : z.cells.size = 1)
    (base : Nat) (v : Value) (hs ms : List Value) (hev : a.eval s = v) (hown : OwnV E w base v hs) (ad : Addr) (m c : Nat) (hx : a.eval x = .slice (some ad) m c) (hm : m = ms.length)
    (hnews : ∀ j u, ms[j]? = some u → w.cell? (ad.add j) = some u) (h1 : ∀ u ∈ ms, u.oneCell' = true)
    (hlen : (hs.length + m) * (bytes + 1) ≤ 140737488355328) (hbase : base ≤ w.heap.size)
    (h : ∀ A' n' c' w', OwnV E w' base (.slice A' n' c') (hs ++ ms) → w.grownBy w' v.ownBlock → Below base w w' → ((Value.slice A' n' c').ownBlock = v.ownBlock ∨ (Value.slice A' n' c').ownBlock = some w.heap.size) → wpList P ops Q rest (a.put o.dst (.slice A' n' c')) w') : wpList P ops Q (o :: rest) a w := by
  subst hm
  obtain ⟨i, hi, hz, hsz, hby⟩ := info_parts hi0
  have hb2 : (hs.length + ms.length) * bytes ≤ 140737488355328 := Nat.le_trans (Nat.mul_le_mul_left _ (Nat.le_succ _)) hlen
  have hb3 : hs.length + ms.length ≤ 140737488355328 := Nat.le_trans (Nat.le_mul_of_pos_right _ (Nat.succ_pos _)) hlen
  refine wpList_append_own_at w hgd s x T ho base E i z 1 bytes ht hi hz hsz hby hz1 (by decide) v hs.length hs hev hown ad ms.length c ms hx (by simp) hnews h1 (by simp only [maxLen]; omega) hb2 hbase ?_
  intro v' w' hown' hg _ hat
  have hown2 : OwnV E w' base v' (hs ++ ms) := by
    unfold OwnV
    rw [List.length_append]
    exact hown'
  obtain ⟨A', n', c', rfl⟩ := hown2.slice
  exact h A' n' c' w' hown2 hg ((Below.refl base w).grown hg hbase fun k hk => (hown.lt k hk).1) hat
/-- The same, as one step of a region. -/
theorem step_appV {P : Program} {w : World} {ops : Array Oper} {o : Oper} {a : Act} {K : Act → World → Prop} {Q : Exit → Act → World → Prop} {F : Prop} (hw : Region.wanted o (yielded ops a.tmps) = true) (s x : Operand) (T E : TypeId) (z : Value) (bytes : Nat)
    (ho : o.op = .call { callee := .builtin .append, args := #[s, x], argTypes := #[T, T] })
    (ht : P.underlying T = some (.slice E)) (hi0 : (P.info? E).map (fun i => (i.zero, i.size, i.bytes)) = some (some z, 1, bytes)) (hz1 : z.cells.size = 1)
    (base : Nat) (v : Value) (hs ms : List Value) (hev : a.eval s = v) (hown : OwnV E w base v hs) (ad : Addr) (m c : Nat) (hx : a.eval x = .slice (some ad) m c) (hm : m = ms.length)
    (hnews : ∀ j u, ms[j]? = some u → w.cell? (ad.add j) = some u) (h1 : ∀ u ∈ ms, u.oneCell' = true)
    (hlen : (hs.length + m) * (bytes + 1) ≤ 140737488355328) (hbase : base ≤ w.heap.size)
    (h : ∀ A' n' c' w', OwnV E w' base (.slice A' n' c') (hs ++ ms) → w.grownBy w' v.ownBlock → Below base w w' → ((Value.slice A' n' c').ownBlock = v.ownBlock ∨ (Value.slice A' n' c').ownBlock = some w.heap.size) → K (a.put o.dst (.slice A' n' c')) w') :
    if Region.wanted o (yielded ops a.tmps) = true then Oper.wp P o a w K Q else F := by
  rw [if_pos hw]
  subst hm
  obtain ⟨i, hi, hz, hsz, hby⟩ := info_parts hi0
  have hb2 : (hs.length + ms.length) * bytes ≤ 140737488355328 := Nat.le_trans (Nat.mul_le_mul_left _ (Nat.le_succ _)) hlen
  have hb3 : hs.length + ms.length ≤ 140737488355328 := Nat.le_trans (Nat.le_mul_of_pos_right _ (Nat.succ_pos _)) hlen
  obtain ⟨v', w', hr, h2, h3, h4, h5⟩ := run_append_own_at (P := P) w base T o.type E i z 1 bytes ht hi hz hsz hby hz1 (by decide) v hs.length hs hown ad ms.length c ms (by simp) hnews h1 (by simp only [maxLen]; omega) hb2 hbase
  have hown2 : OwnV E w' base v' (hs ++ ms) := by
    unfold OwnV
    rw [List.length_append]
    exact h2
  obtain ⟨A', n', c', rfl⟩ := hown2.slice
  unfold Oper.wp execOp
  simp only [ho, resolve, invoke, builtin, Sem.run_bind, Sem.run_pure, Result.andThen_ok, List.map_toArray, List.map_cons, List.map_nil, hev, hx, hr]
  exact h A' n' c' w' hown2 h3 ((Below.refl base w).grown h3 hbase fun k hk => (hown.lt k hk).1) h5
end Go.Proofs.Ytpnmcdpekfibjaa
