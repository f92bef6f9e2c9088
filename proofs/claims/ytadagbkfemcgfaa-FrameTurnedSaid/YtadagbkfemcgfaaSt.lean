/-
  Own work. Bytes in a block known whole; the contract of sha's stateBytes.
-/
import Derived.Test.YtadagbkfemcgfaaMb
namespace Go.Proofs.Ytadagbkfemcgfaa
open Go.RowKit
set_option linter.unusedVariables false

/-- Byte i of a state. -/
def outAt (s : List Nat) (i : Nat) : UInt8 := UInt8.ofNat (s.getD (i / 4) 0 / 2 ^ (24 - 8 * (i % 4)))
def outN (s : List Nat) (j : Nat) : List UInt8 := (List.range j).map (outAt s) ++ List.replicate (32 - j) 0
def outB (s : List Nat) : List UInt8 := outN s 32
theorem outN_len (s : List Nat) (j : Nat) (h : j ≤ 32) : (outN s j).length = 32 := by simp [outN]; omega
theorem outN_set (s : List Nat) (j : Nat) (h : j < 32) : (outN s j).set j (outAt s j) = outN s (j + 1) := by
  unfold outN
  rw [List.set_append_right _ _ (by simp), List.range_succ, List.map_append, List.append_assoc]
  congr 1
  rw [show 32 - j = (32 - (j + 1)) + 1 by omega, List.replicate_succ]
  simp
def StR (w wr : World) (s : List Nat) (l : List UInt8) : Prop :=
  Ww wr w.heap.size 151 s ∧ Bw wr (w.heap.size + 1) 23 (List.replicate 32 0) ∧ Bw wr (w.heap.size + 1 + 1) 23 l ∧ Below w.heap.size w wr
theorem StR.new (w : World) (s : List Nat) : StR w (((w.alloc (.cells (wordsW s) 151)).alloc (.cells (cellsB (List.replicate 32 0)).toArray 23)).alloc (.cells (cellsB (List.replicate 32 0)).toArray 23)) s (outN s 0) := by
  have e0 : outN s 0 = List.replicate 32 0 := rfl
  rw [e0]
  refine ⟨((Ww.new _ _ _).alloc _).alloc _, ?_, ?_, (((Below.refl _ _).alloc (Nat.le_refl _) _).alloc (by simp) _).alloc (by simp; omega) _⟩
  · have := (Bw.new (w.alloc (.cells (wordsW s) 151)) (List.replicate 32 0) 23).alloc (.cells (cellsB (List.replicate 32 0)).toArray 23)
    simpa using this
  · have := Bw.new ((w.alloc (.cells (wordsW s) 151)).alloc (.cells (cellsB (List.replicate 32 0)).toArray 23)) (List.replicate 32 0) 23
    simpa using this
theorem StR.put {w wr : World} {s : List Nat} {l : List UInt8} (h : StR w wr s l) {i : Nat} {x : UInt8} {y : Int} (hy : y = (x.toNat : Int)) : StR w (wr.setCell ⟨w.heap.size + 1 + 1, i, none⟩ (.int .u8 y)) s (l.set i x) := by
  obtain ⟨h0, h1, h2, h3⟩ := h
  exact ⟨h0.far (show w.heap.size ≠ w.heap.size + 1 + 1 by omega) _, h1.far (show w.heap.size + 1 ≠ w.heap.size + 1 + 1 by omega) _, h2.set_ hy, h3.setCell (p := ⟨w.heap.size + 1 + 1, i, none⟩) (show w.heap.size ≤ w.heap.size + 1 + 1 by omega) _⟩

set_option maxRecDepth 100000 in
set_option maxHeartbeats 400000 in
theorem bytes_any (s : List Nat) (w : World) (hs : s.length = 8) (ss : Small s) :
    Calls Try.prog 105 #[.agg (wordsW s)] w fun e w' => e = .returned (.agg (cellsB (outB s)).toArray) ∧ Below w.heap.size w w' := by
  have HS := Lib.hid hs
  clear hs
  go_enter Try.func105, Try.ntmps105
  go_wp2_with fail
  go_loopw [5] (fun i wr => ∃ j : Nat, j ≤ 32 ∧ i = .int .i64 (j : Int) ∧ StR w wr s (outN s j)) (fun i _ => 32 - (intOf i).toNat)
  case atStart => exact ⟨0, by omega, rfl, StR.new w s⟩
  case round =>
    obtain ⟨j, hj, rfl, hR⟩ := hrel
    by_cases hlt : j < 32
    · obtain ⟨x, ax, bx⟩ := word_at s (j / 4) (by rw [HS.out]; omega)
      obtain ⟨z, az, _⟩ := byte_at (outN s j) j (by rw [outN_len s j hj]; omega)
      have c1 := hR.1.cell ax
      have lx := ss.at_ ax
      have c2 := hR.2.2.1.cell az
      have f2 := hR.2.2.1.frozen j
      have HX := Lib.hid bx
      have HR := Lib.hid hR
      have g1 : (0 : Int) ≤ (j : Int) / 4 := by omega
      have g2 : (j : Int) / 4 < 8 := by omega
      have g3 : ((j : Int) / 4).toNat = j / 4 := by omega
      have g4 : (0 : Int) ≤ 24 - 8 * ((j : Int) % 4) := by omega
      have g5 : (24 - 8 * ((j : Int) % 4)).toNat = 24 - 8 * (j % 4) := by omega
      clear ax bx az hR
      go_wp2_with fail
      go_roundw
      case rel =>
        refine ⟨j + 1, by omega, by go_num, ?_⟩
        rw [← outN_set s j hlt]
        exact HR.out.put (by unfold outAt; rw [HX.out, UInt8.toNat_ofNat']; simp)
      case measure => simp [intOf]; omega
    · obtain rfl : j = 32 := by omega
      have hsz : (cellsB (outB s)).toArray.size = 32 := by rw [cellsB_size]; exact outN_len s 32 (by omega)
      have iv : (Try.prog.info? 23).map (·.size) = some (cellsB (outB s)).toArray.size := by rw [hsz]; exact infoID
      have hz : (cellsB (List.replicate 32 0)).toArray.size = (cellsB (outB s)).toArray.size := by rw [hsz]; rfl
      have h2 : Bw wr (w.heap.size + 1 + 1) 23 (outB s) := hR.2.2.1
      have H1 := Lib.hid hR.2.1
      have H2 := Lib.hid h2
      have HB2 := Lib.hid hR.2.2.2
      have IV := Lib.hid iv
      have HZ := Lib.hid hz
      clear hsz iv hz hR h2
      go_wp2_with (first
        | (refine wpList_load_row rfl 23 (.tmp 3) rfl (w.heap.size + 1 + 1) rfl 23 (cellsB (outB s)).toArray (0, 0) _ H2.out Try.underlying23 rfl IV.out ?_)
        | (refine wpList_store_row rfl 23 (.tmp 2) (.tmp 21) rfl (w.heap.size + 1) (cellsB (outB s)).toArray rfl rfl 23 _ H1.out IV.out HZ.out (cellsB_ones _) ?_))
      refine bodyPost_ret (v := .agg (cellsB (outB s)).toArray) ?_ (by rfl) ?_
      · exact results_cell_row (p := 2) (ty := 23) rfl _ _ (w.heap.size + 1) 23 (cellsB (outB s)).toArray _ _ rfl (setRow_heap _ _ _ _ 23 _ H1.out) Try.underlying23 rfl IV.out
      · exact ⟨rfl, below_setRow HB2.out (by omega) _⟩
end Go.Proofs.Ytadagbkfemcgfaa
