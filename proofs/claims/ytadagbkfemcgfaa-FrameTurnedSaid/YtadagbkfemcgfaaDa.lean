/-
  Own work. What has been written to a hash, block by block; what a hash in memory holds of it.
-/
import Derived.Test.YtadagbkfemcgfaaHs
import Derived.Test.YtadagbkfemcgfaaMc
import Derived.Maps.AppendAt
namespace Go.Proofs.Ytadagbkfemcgfaa
open Go.RowKit
set_option linter.unusedVariables false

def blk (D : List UInt8) (k : Nat) : List UInt8 := (D.drop (64 * k)).take 64
/-- The state behind k blocks. -/
def mixN (D : List UInt8) : Nat → List Nat
  | 0 => H0L
  | k + 1 => comp (mixN D k) (blk D k)
theorem blk_app (D E : List UInt8) (k : Nat) (h : 64 * (k + 1) ≤ D.length) : blk (D ++ E) k = blk D k := by
  unfold blk
  rw [List.drop_append_of_le_length (by omega), List.take_append_of_le_length (by rw [List.length_drop]; omega)]
theorem mixN_app (D E : List UInt8) : ∀ k, 64 * k ≤ D.length → mixN (D ++ E) k = mixN D k
  | 0, _ => rfl
  | k + 1, h => by rw [mixN, mixN, mixN_app D E k (by omega), blk_app D E k h]
theorem H0L_small : Small H0L := by
  intro x hx
  simp only [H0L, List.mem_cons, List.not_mem_nil, or_false] at hx
  omega
theorem mixN_len (D : List UInt8) : ∀ k, (mixN D k).length = 8
  | 0 => rfl
  | k + 1 => comp_len _ _ (mixN_len D k)
theorem mixN_small (D : List UInt8) : ∀ k, Small (mixN D k)
  | 0 => H0L_small
  | k + 1 => comp_small _ _ (mixN_small D k)

/-- The hash at the head of block g has been written D. -/
def HashD (w : World) (g : Nat) (D : List UInt8) : Prop :=
  ∃ b, HashW w g (mixN D (D.length / 64)) b D.length ∧ b.take (D.length % 64) = D.drop (64 * (D.length / 64))
theorem HashD.live {w : World} {g : Nat} {D : List UInt8} : 0 < D.length ∨ mixN D (D.length / 64) ≠ List.replicate 8 0 := by
  rcases Nat.eq_zero_or_pos D.length with h | h
  · right
    rw [List.eq_nil_of_length_eq_zero h]
    decide
  · exact .inl h
theorem HashW.kept {w w' : World} {g n : Nat} {s : List Nat} {b : List UInt8} (h : HashW w g s b n) (hk : w'.heap[g]? = w.heap[g]?) : HashW w' g s b n := ⟨hk.trans h.1, h.2⟩
theorem HashW.lt {w : World} {g n : Nat} {s : List Nat} {b : List UInt8} (h : HashW w g s b n) : g < w.heap.size := (Array.getElem?_eq_some_iff.1 h.1).1
theorem HashD.kept {w w' : World} {g : Nat} {D : List UInt8} (h : HashD w g D) (hk : w'.heap[g]? = w.heap[g]?) : HashD w' g D := by
  obtain ⟨b, h1, h2⟩ := h
  exact ⟨b, h1.kept hk, h2⟩
theorem HashD.lt {w : World} {g : Nat} {D : List UInt8} (h : HashD w g D) : g < w.heap.size := by
  obtain ⟨b, h1, h2⟩ := h
  exact h1.lt
theorem HashD.below {w w' : World} {g B : Nat} {D : List UInt8} (h : HashD w g D) (hb : Below B w w') (hg : g < B) : HashD w' g D := h.kept (hb.block g hg)
theorem HashD.grown {w w' : World} {g : Nat} {D : List UInt8} {row : Option Nat} (h : HashD w g D) (hb : w.grownBy w' row) (hg : some g ≠ row) : HashD w' g D := h.kept (hb.block g h.lt hg)

/-- The parts of a hash's row. -/
theorem hashV_at (s : List Nat) (b : List UInt8) (n i : Nat) (x : UInt8) (hs : s.length = 8) (hx : b[i]? = some x) : (hashV s b n)[8 + i]? = some (.int .u8 (x.toNat : Int)) := by
  have hi : i < b.length := (List.getElem?_eq_some_iff.1 hx).1
  unfold hashV
  rw [List.getElem?_append_right (by simp [hs]), List.getElem?_append_left (by simp [cellsB, hs]; omega)]
  simp [cellsB, hs, hx]
theorem hashV_size (s : List Nat) (b : List UInt8) (n : Nat) (hs : s.length = 8) (hb : b.length = 64) : (hashV s b n)[72]? = some (.int .u64 (n : Int)) := by
  unfold hashV
  rw [← List.append_assoc, List.getElem?_append_right (by simp [cellsB, hs, hb])]
  simp [cellsB, hs, hb]
theorem hashV_setSize (s : List Nat) (b : List UInt8) (n m : Nat) (hs : s.length = 8) (hb : b.length = 64) : (hashV s b n).set 72 (.int .u64 (m : Int)) = hashV s b m := by
  unfold hashV
  rw [← List.append_assoc, List.set_append_right _ _ (by simp [cellsB, hs, hb]), ← List.append_assoc]
  simp [cellsB, hs, hb]
theorem hashV_splice (s : List Nat) (b e : List UInt8) (n x : Nat) (hs : s.length = 8) (hb : b.length = 64) (hx : x + e.length ≤ 64) : splice (hashV s b n) (8 + x) (cellsB e) = hashV s (splice b x e) n := by
  unfold splice hashV
  have l1 : (s.map fun (x : Nat) => Value.int .u32 (x : Int)).length = 8 := by simp [hs]
  have l2 : (cellsB b).length = 64 := by simp [cellsB, hb]
  generalize (s.map fun (x : Nat) => Value.int .u32 (x : Int)) = S at *
  rw [List.take_append, List.drop_append, l1, List.take_of_length_le (by omega), show 8 + x - 8 = x by omega, List.take_append_of_le_length (by omega), List.drop_of_length_le (by omega), List.nil_append,
    cellsB_length, show 8 + x + e.length - 8 = x + e.length by omega, List.drop_append_of_le_length (by omega)]
  simp [cellsB, List.map_append, List.map_take, List.map_drop]
theorem hashV_state (s s' : List Nat) (b : List UInt8) (n : Nat) (hs : s.length = 8) : (s'.map fun (x : Nat) => Value.int .u32 (x : Int)) ++ (hashV s b n).drop 8 = hashV s' b n := by
  unfold hashV
  rw [List.drop_append_of_le_length (by simp [hs]), List.drop_of_length_le (by simp [hs]), List.nil_append]

/-- A piece e is written. -/
theorem piece_in (D b e : List UInt8) (hb : b.length = 64) (ht : b.take (D.length % 64) = D.drop (64 * (D.length / 64))) (he : D.length % 64 + e.length < 64) :
    (D ++ e).length / 64 = D.length / 64 ∧ (D ++ e).length % 64 = D.length % 64 + e.length ∧ mixN (D ++ e) ((D ++ e).length / 64) = mixN D (D.length / 64) ∧ (splice b (D.length % 64) e).take ((D ++ e).length % 64) = (D ++ e).drop (64 * ((D ++ e).length / 64)) := by
  have e1 : (D ++ e).length / 64 = D.length / 64 := by rw [List.length_append]; omega
  have e2 : (D ++ e).length % 64 = D.length % 64 + e.length := by rw [List.length_append]; omega
  refine ⟨e1, e2, by rw [e1, mixN_app D e _ (by omega)], ?_⟩
  rw [e1, e2, List.drop_append_of_le_length (by omega), ← ht]
  unfold splice
  rw [← List.append_assoc, List.take_append_of_le_length (by simp; omega), List.take_of_length_le (by simp; omega)]
theorem piece_end (D b e : List UInt8) (hb : b.length = 64) (ht : b.take (D.length % 64) = D.drop (64 * (D.length / 64))) (he : D.length % 64 + e.length = 64) :
    (D ++ e).length / 64 = D.length / 64 + 1 ∧ (D ++ e).length % 64 = 0 ∧ mixN (D ++ e) ((D ++ e).length / 64) = comp (mixN D (D.length / 64)) (splice b (D.length % 64) e) ∧ (splice b (D.length % 64) e).take ((D ++ e).length % 64) = (D ++ e).drop (64 * ((D ++ e).length / 64)) := by
  have e1 : (D ++ e).length / 64 = D.length / 64 + 1 := by rw [List.length_append]; omega
  have e2 : (D ++ e).length % 64 = 0 := by rw [List.length_append]; omega
  refine ⟨e1, e2, ?_, ?_⟩
  · rw [e1, mixN, mixN_app D e _ (by omega)]
    congr 1
    unfold blk splice
    rw [List.drop_append_of_le_length (by omega), ← ht, List.take_of_length_le (by simp; omega), List.drop_of_length_le (by omega), List.append_nil]
  · rw [e1, e2, List.drop_of_length_le (by simp; omega)]
    rfl
theorem splice_len (b e : List UInt8) (x : Nat) (h : x + e.length ≤ b.length) : (splice b x e).length = b.length := length_splice b x e h
end Go.Proofs.Ytadagbkfemcgfaa
