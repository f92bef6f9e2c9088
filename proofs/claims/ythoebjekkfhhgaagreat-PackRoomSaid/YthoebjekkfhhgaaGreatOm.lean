/-
  Own work.
-/
import Derived.Test.YthoebjekkfhhgaaGreatG1
set_option linter.unusedVariables false
set_option linter.unusedSimpArgs false
namespace Go.Proofs.YthoebjekkfhhgaaGreat
open Go.RowKit
def OwnM (E : TypeId) (k : Nat) (w : World) (base : Nat) (v : Value) (rows : List (List Value)) : Prop :=
 w.ownsRow base E k v rows.length rows.flatten /\ ∀ r ∈ rows, r.length = k
theorem flatM_len {k : Nat} : ∀ {rows : List (List Value)}, (∀ r ∈ rows, r.length = k) -> rows.flatten.length = rows.length * k
 | [], _ => by simp
 | r :: rows, h => by
   rw [List.flatten_cons, List.length_append, flatM_len (fun x hx => h x (List.mem_cons_of_mem _ hx)), h r List.mem_cons_self, List.length_cons, Nat.succ_mul]
   omega
theorem flatM_at {k : Nat} : ∀ {rows : List (List Value)}, (∀ r ∈ rows, r.length = k) -> ∀ i r, rows[i]? = some r -> ∀ j u, r[j]? = some u -> rows.flatten[i * k + j]? = some u
 | [], _, _, _, h, _, _, _ => by simp at h
 | x :: rows, hk, 0, r, h, j, u, hj => by
   simp only [List.getElem?_cons_zero, Option.some.injEq] at h
   subst h
   rw [List.flatten_cons, Nat.zero_mul, Nat.zero_add, List.getElem?_append_left (List.getElem?_eq_some_iff.1 hj).1]
   exact hj
 | x :: rows, hk, i + 1, r, h, j, u, hj => by
   have hx := hk x List.mem_cons_self
   have := flatM_at (rows := rows) (fun y hy => hk y (List.mem_cons_of_mem _ hy)) i r (by simpa using h) j u hj
   rw [List.flatten_cons, List.getElem?_append_right (by rw [hx, Nat.succ_mul]; omega), hx, show (i + 1) * k + j - k = i * k + j by rw [Nat.succ_mul]; omega]
   exact this
section
variable {E : TypeId} {w w' : World} {base n c k : Nat} {A : Option Addr} {v : Value} {rows : List (List Value)}
theorem OwnM.nil (E : TypeId) (k : Nat) (w : World) (base : Nat) : OwnM E k w base (.slice none 0 0) [] := ⟨⟨by simp, .inl ⟨rfl, rfl⟩⟩, fun r hr => absurd hr (by simp)⟩
theorem OwnM.form (h : OwnM E k w base v rows) : (v = .slice none 0 0 /\ rows = []) \/ ∃ g c cur, v = .slice (some ⟨g, 0, none⟩) rows.length c /\ base <= g /\ g < w.heap.size /\ w.heap[g]? = some (.cells cur E (0, 0)) /\ rows.length <= c /\ c <= maxLen /\ cur.size = c * k /\ cur.toList.take (rows.length * k) = rows.flatten := by
 rcases h.1.2 with ⟨e, hn⟩ | ⟨g, c, cur, e, hb, hg, hn, hc, hs', ht⟩
 · exact .inl ⟨e, List.eq_nil_of_length_eq_zero hn⟩
 · exact .inr ⟨g, c, cur, e, hb, (Array.getElem?_eq_some_iff.1 hg).1, hg, hn, hc, hs', ht⟩
theorem OwnM.len (h : OwnM E k w base (.slice A n c) rows) : n = rows.length := by
 rcases h.form with ⟨e, rfl⟩ | ⟨g, c', cur, e, _⟩
 · simp only [Value.slice.injEq] at e
   exact e.2.1
 · simp only [Value.slice.injEq] at e
   exact e.2.1
theorem OwnM.caps (h : OwnM E k w base (.slice A n c) rows) : n <= c /\ c <= maxLen := by
 rcases h.form with ⟨e, rfl⟩ | ⟨g, c', cur, e, _, _, _, h1, h2, _⟩
 · simp only [Value.slice.injEq] at e
   obtain ⟨rfl, rfl, rfl⟩ := e
   exact ⟨Nat.le_refl _, by simp⟩
 · simp only [Value.slice.injEq] at e
   obtain ⟨rfl, rfl, rfl⟩ := e
   exact ⟨h1, h2⟩
theorem OwnM.slice (h : OwnM E k w base v rows) : ∃ A c, v = .slice A rows.length c := by
 rcases h.form with ⟨e, rfl⟩ | ⟨g, c', cur, e, _⟩
 · exact ⟨_, _, e⟩
 · exact ⟨_, _, e⟩
theorem OwnM.lt (h : OwnM E k w base v rows) : ∀ b, v.ownBlock = some b -> base <= b /\ b < w.heap.size := World.ownsRow.lt h.1
theorem OwnM.only {S : Nat -> Prop} (h : OwnM E k w base v rows) (ho : Only S w w') (hS : ∀ b, v.ownBlock = some b -> ¬ S b) : OwnM E k w' base v rows := by
 refine ⟨⟨h.1.1, ?_⟩, h.2⟩
 rcases h.1.2 with h2 | ⟨g, c, cur, e, h3, hg, r⟩
 · exact .inl h2
 · exact .inr ⟨g, c, cur, e, h3, by rw [ho.block g (Array.getElem?_eq_some_iff.1 hg).1 (hS g (by rw [e]; rfl))]; exact hg, r⟩
theorem OwnM.below (h : OwnM E k w base v rows) (hb : Below w.heap.size w w') : OwnM E k w' base v rows :=
 h.only (S := fun _ => False) (Only.of_below hb (Nat.le_refl _)) (fun _ _ h => h)
theorem OwnM.drew (h : OwnM E k w base v rows) : OwnM E k w.drew base v rows := h
theorem OwnM.at_ (h : OwnM E k w base (.slice A n c) rows) (hn : 0 < n) : ∃ g, A = some ⟨g, 0, none⟩ /\ base <= g /\ g < w.heap.size /\ ∀ i r, rows[i]? = some r -> ∀ j u, r[j]? = some u -> w.cell? ⟨g, i * k + j, none⟩ = some u := by
 have hl := h.len
 rcases h.form with ⟨e, rfl⟩ | ⟨g, c', cur, e, hb, hlt, hg, h1, h2, h3, h4⟩
 · simp at hl; omega
 · simp only [Value.slice.injEq] at e
   obtain ⟨rfl, -, rfl⟩ := e
   refine ⟨g, rfl, hb, hlt, fun i r hr j u hu => ?_⟩
   have := World.ownsRow.cells (w := w) h.1 (g := g) rfl (i * k + j) u (flatM_at h.2 i r hr j u hu)
   simpa [Addr.add_lit] using this
end
theorem load_M {P : Program} {W : World} {E : TypeId} {k g o : Nat} {r : List Value} (hl : r.length = k) (hi : (P.info? E).map (·.size) = some k) (hag : ∀ W, (isAgg E).run P W = .ok true W) (h : ∀ j u, r[j]? = some u -> W.cell? ⟨g, o + j, none⟩ = some u) :
 (loadVar E ⟨g, o, none⟩).run P W = .ok (.agg r.toArray) W := by
 have hc : (loadCells ⟨g, o, none⟩ k).run P W = .ok r.toArray W := by
  rw [<- hl]
  exact run_loadCells_list (P := P) W ⟨g, o, none⟩ r (fun j v hv => by rw [Addr.add_lit]; exact h j v hv)
 cases hq : P.info? E with
 | none => simp [hq] at hi
 | some i =>
   have hs : i.size = k := by simpa [hq] using hi
   simp [loadVar, Sem.run_bind, hag, sizeOf, typeInfo, hq, hs, hc]
theorem infoM {P : Program} {E : TypeId} {k bytes : Nat} (h : (P.info? E).map (fun i => (i.size, i.bytes, i.zero.map (fun z => z.cells.size))) = some (k, bytes, some k)) : ∃ i z, P.info? E = some i /\ i.zero = some z /\ i.size = k /\ i.bytes = bytes /\ z.cells.size = k := by
 cases hi : P.info? E with
 | none => rw [hi] at h; cases h
 | some ie =>
   rw [hi] at h
   simp only [Option.map_some, Option.some.injEq, Prod.mk.injEq] at h
   cases hz : ie.zero with
   | none => rw [hz] at h; simp at h
   | some z =>
     rw [hz] at h
     simp only [Option.map_some, Option.some.injEq] at h
     exact ⟨ie, z, rfl, hz, h.1, h.2.1, h.2.2⟩
theorem wp_appM {P : Program} {w : World} {ops : Array Oper} {rest : List Oper} {o : Oper} {a : Act} {Q : Exit -> Act -> World -> Prop} (hgd : o.guard = none) (s x : Operand) (T E : TypeId) (k bytes : Nat)
 (ho : o.op = .call { callee := .builtin .append, args := #[s, x], argTypes := #[T, T] })
 (ht : P.underlying T = some (.slice E)) (hi0 : (P.info? E).map (fun i => (i.size, i.bytes, i.zero.map (fun z => z.cells.size))) = some (k, bytes, some k)) (hk : 0 < k)
 (base : Nat) (v : Value) (rows : List (List Value)) (r : List Value) (hev : a.eval s = v) (hown : OwnM E k w base v rows) (ad : Addr) (c : Nat) (hx : a.eval x = .slice (some ad) 1 c) (hr : r.length = k)
 (hnews : ∀ j u, r[j]? = some u -> w.cell? (ad.add j) = some u) (h1 : ∀ u ∈ r, u.oneCell' = true)
 (hlen : (rows.length + 1) * (bytes + 1) <= 140737488355328) (hbase : base <= w.heap.size)
 (h : ∀ A' n' c' w', OwnM E k w' base (.slice A' n' c') (rows ++ [r]) -> w.grownBy w' v.ownBlock -> Below base w w' -> ((Value.slice A' n' c').ownBlock = v.ownBlock \/ (Value.slice A' n' c').ownBlock = some w.heap.size) -> wpList P ops Q rest (a.put o.dst (.slice A' n' c')) w') : wpList P ops Q (o :: rest) a w := by
 obtain ⟨i, z, hi, hz, hs, hby, hzs⟩ := infoM hi0
 have hb2 : (rows.length + 1) * bytes <= 140737488355328 := Nat.le_trans (Nat.mul_le_mul_left _ (Nat.le_succ _)) hlen
 have hb3 : rows.length + 1 <= 140737488355328 := Nat.le_trans (Nat.le_mul_of_pos_right _ (Nat.succ_pos _)) hlen
 refine wpList_append_own_at w hgd s x T ho base E i z k bytes ht hi hz hs hby hzs hk v rows.length rows.flatten hev hown.1 ad 1 c r hx (by rw [hr, Nat.one_mul]) hnews h1 (by simp only [maxLen]; omega) hb2 hbase ?_
 intro v' w' hown' hg _ hat
 have hown2 : OwnM E k w' base v' (rows ++ [r]) := by
  refine ⟨?_, fun q hq => ?_⟩
  · rw [List.length_append, List.flatten_append, show [r].flatten = r by simp]
    exact hown'
  · rcases List.mem_append.1 hq with hq | hq
    · exact hown.2 q hq
    · rw [List.mem_singleton] at hq; rw [hq]; exact hr
 obtain ⟨A', c', rfl⟩ := hown2.slice
 exact h A' _ c' w' hown2 hg ((Below.refl base w).grown hg hbase fun b hb => (hown.lt b hb).1) hat
end Go.Proofs.YthoebjekkfhhgaaGreat
