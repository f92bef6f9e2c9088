/-
  Own work. 'Only the blocks of S have turned'; a row of strings in a block.
-/
import Derived.Test.YtpnmcdpekfibjaaSp
namespace Go.Proofs.Ytpnmcdpekfibjaa
open Go.RowKit
set_option linter.unusedVariables false
set_option linter.unusedSimpArgs false

/-- What was there is as it was, but for the blocks of S. -/
structure Only (S : Nat → Prop) (w w' : World) : Prop where
  os : w'.os = w.os
  tape : w'.tape = w.tape
  output : w'.output = w.output
  size : w.heap.size ≤ w'.heap.size
  block : ∀ k, k < w.heap.size → ¬ S k → w'.heap[k]? = w.heap[k]?
section
variable {S T : Nat → Prop} {w w' w'' : World}
theorem Only.refl (S : Nat → Prop) (w : World) : Only S w w := ⟨rfl, rfl, rfl, Nat.le_refl _, fun _ _ _ => rfl⟩
theorem Only.trans (h : Only S w w') (h' : Only S w' w'') : Only S w w'' :=
  ⟨h'.os.trans h.os, h'.tape.trans h.tape, h'.output.trans h.output, Nat.le_trans h.size h'.size, fun k hk hS => (h'.block k (Nat.lt_of_lt_of_le hk h.size) hS).trans (h.block k hk hS)⟩
theorem Only.mono (h : Only S w w') (hST : ∀ k, k < w.heap.size → S k → T k) : Only T w w' := ⟨h.os, h.tape, h.output, h.size, fun k hk hT => h.block k hk fun hS => hT (hST k hk hS)⟩
theorem Only.below {B : Nat} (h : Below B w w') : Only (fun k => B ≤ k) w w' := ⟨h.os, h.tape, h.output, h.size, fun k hk hS => h.block k (Nat.not_le.1 hS)⟩
theorem Only.of_below {B : Nat} (h : Below B w w') (hB : w.heap.size ≤ B) : Only S w w' := ⟨h.os, h.tape, h.output, h.size, fun k hk hS => h.block k (by omega)⟩
theorem Only.to_below {B : Nat} (h : Only S w w') (hS : ∀ k, S k → B ≤ k) (hB : B ≤ w.heap.size) : Below B w w' := ⟨h.os, h.tape, h.output, h.size, fun k hk => h.block k (by omega) fun hs => by have := hS k hs; omega⟩
theorem Only.drew (h : Only S w w') : Only S w w'.drew := ⟨h.os, h.tape, h.output, h.size, h.block⟩
theorem Only.alloc (h : Only S w w') (o : Obj) : Only S w (w'.alloc o) :=
  h.trans (Only.of_below ((Below.refl _ _).alloc (Nat.le_refl _) o) (Nat.le_refl _))
theorem Only.setCell (h : Only S w w') {p : Addr} (hp : S p.block) (v : Value) : Only S w (w'.setCell p v) := by
  have hb := (Below.refl p.block w').setCell (p := p) (Nat.le_refl _) v
  refine h.trans ⟨hb.os, hb.tape, hb.output, hb.size, fun k hk hS => ?_⟩
  exact heap_setCell_other w' p k v (fun e => hS (e ▸ hp))
theorem Only.setRow (h : Only S w w') {g : Nat} (hg : S g) (cs : Array Value) : Only S w (w'.setRow g cs) := by
  have hb := below_setRow (Below.refl g w') (Nat.le_refl _) cs
  refine h.trans ⟨hb.os, hb.tape, hb.output, hb.size, fun k hk hS => ?_⟩
  exact setRow_other w' g k cs (fun e => hS (e ▸ hg))
end

/-- A row of strings at the head of block g, of which c places are there. -/
def RowS (w : World) (g c : Nat) (l : List ByteArray) : Prop :=
  ∃ cur : Array Value, w.heap[g]? = some (.cells cur 9 (0, 0)) ∧ cur.size = c ∧ cur.toList.take l.length = l.map Value.string ∧ l.length ≤ c ∧ c ≤ maxLen
section
variable {S : Nat → Prop} {w w' : World} {g c : Nat} {l : List ByteArray}
theorem RowS.lt (h : RowS w g c l) : g < w.heap.size := by
  obtain ⟨cur, h1, _⟩ := h
  exact (Array.getElem?_eq_some_iff.1 h1).1
theorem RowS.keep (h : RowS w g c l) (hk : w'.heap[g]? = w.heap[g]?) : RowS w' g c l := by
  obtain ⟨cur, h1, h2⟩ := h
  exact ⟨cur, hk.trans h1, h2⟩
theorem RowS.only (h : RowS w g c l) (ho : Only S w w') (hg : ¬ S g) : RowS w' g c l := h.keep (ho.block g h.lt hg)
theorem RowS.far (h : RowS w g c l) {p : Addr} (hp : g ≠ p.block) (v : Value) : RowS (w.setCell p v) g c l := h.keep (heap_setCell_other w p g v hp)
theorem RowS.cell (h : RowS w g c l) {i : Nat} {s : ByteArray} (hs : l[i]? = some s) : w.cell? ⟨g, i, none⟩ = some (.string s) := by
  obtain ⟨cur, h1, _, h3, _⟩ := h
  obtain ⟨hi, _⟩ := List.getElem?_eq_some_iff.1 hs
  rw [cell_of_row w g i _ _ (0, 0) h1]
  have h4 : (cur.toList.take l.length)[i]? = some (.string s) := by rw [h3, List.getElem?_map, hs]; rfl
  rw [List.getElem?_take, if_pos hi] at h4
  simpa using h4
theorem RowS.frozen (h : RowS w g c l) (i : Nat) : w.frozen? ⟨g, i, none⟩ = false := by
  obtain ⟨cur, h1, _⟩ := h
  exact frozen_of_row w g i _ _ h1
theorem RowS.set_ (h : RowS w g c l) {i : Nat} (s : ByteArray) : RowS (w.setCell ⟨g, i, none⟩ (.string s)) g c (l.set i s) := by
  obtain ⟨cur, h1, h2, h3, h4, h5⟩ := h
  refine ⟨cur.setIfInBounds i (.string s), heap_setCell_same w g i _ _ _ h1, by simpa using h2, ?_, by simpa using h4, h5⟩
  rw [List.length_set, Array.toList_setIfInBounds, List.take_set, h3, List.map_set]
end
end Go.Proofs.Ytpnmcdpekfibjaa
