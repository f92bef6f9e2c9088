/-
  Own work. Bytes under a mask; the contract of mac's masked.
-/
import Derived.Test.YtkpmfpbeidhcbaaDa
namespace Go.Proofs.Ytkpmfpbeidhcbaa
open Go.RowKit
set_option linter.unusedVariables false
set_option linter.unusedSimpArgs false

def xorB (m : UInt8) (l : List UInt8) : List UInt8 := l.map fun b => b ^^^ m
def xorN (m : UInt8) (l : List UInt8) (j : Nat) : List UInt8 := xorB m (l.take j) ++ l.drop j
theorem xorB_len (m : UInt8) (l : List UInt8) : (xorB m l).length = l.length := by simp [xorB]
theorem xorN_len (m : UInt8) (l : List UInt8) (j : Nat) : (xorN m l j).length = l.length := by simp [xorN, xorB]; omega
theorem xorN_zero (m : UInt8) (l : List UInt8) : xorN m l 0 = l := by simp [xorN, xorB]
theorem xorN_all (m : UInt8) (l : List UInt8) (j : Nat) (h : l.length ≤ j) : xorN m l j = xorB m l := by simp [xorN, xorB, List.take_of_length_le h, h]
theorem xorN_at (m : UInt8) (l : List UInt8) (j : Nat) (x : UInt8) (h : l[j]? = some x) : (xorN m l j)[j]? = some x := by
  obtain ⟨hj, _⟩ := List.getElem?_eq_some_iff.1 h
  unfold xorN
  rw [List.getElem?_append_right (by simp [xorB]; omega)]
  simp [xorB, List.getElem?_drop, Nat.min_eq_left (Nat.le_of_lt hj), h]
theorem xorN_set (m : UInt8) (l : List UInt8) (j : Nat) (x : UInt8) (h : l[j]? = some x) : (xorN m l j).set j (x ^^^ m) = xorN m l (j + 1) := by
  obtain ⟨hj, rfl⟩ := List.getElem?_eq_some_iff.1 h
  have e : (xorB m (l.take j)).length = j := by rw [xorB_len, List.length_take]; omega
  unfold xorN
  rw [List.set_append_right _ _ (by omega), e, Nat.sub_self, List.drop_eq_getElem_cons hj, List.set_cons_zero, List.take_succ_eq_append_getElem hj]
  unfold xorB
  rw [List.map_append, List.append_assoc]
  rfl
theorem xor8 (a b : UInt8) : bits .xor .u8 (a.toNat : Int) (b.toNat : Int) = ((a ^^^ b).toNat : Int) := by
  rw [u8_xor_nat _ _ a.toNat_lt b.toNat_lt, UInt8.toNat_xor]

def MkR (w wr : World) (l : List UInt8) : Prop :=
  Bw wr w.heap.size 45 l ∧ Bw wr (w.heap.size + 1) 45 (List.replicate 64 0) ∧ Below w.heap.size w wr
theorem MkR.new (w : World) (l : List UInt8) : MkR w ((w.alloc (.cells (cellsB l).toArray 45)).alloc (.cells (cellsB (List.replicate 64 0)).toArray 45)) l := by
  refine ⟨(Bw.new _ _ _).alloc _, ?_, ((Below.refl _ _).alloc (Nat.le_refl _) _).alloc (by simp) _⟩
  have := Bw.new (w.alloc (.cells (cellsB l).toArray 45)) (List.replicate 64 0) 45
  simpa using this
theorem MkR.put {w wr : World} {l : List UInt8} (h : MkR w wr l) {i : Nat} {x : UInt8} {y : Int} (hy : y = (x.toNat : Int)) : MkR w (wr.setCell ⟨w.heap.size, i, none⟩ (.int .u8 y)) (l.set i x) := by
  obtain ⟨h1, h2, h3⟩ := h
  exact ⟨h1.set_ hy, h2.far (show w.heap.size + 1 ≠ w.heap.size by omega) _, h3.setCell (p := ⟨w.heap.size, i, none⟩) (Nat.le_refl _) _⟩
theorem infoBlk : (Try.prog.info? 45).map (·.size) = some 64 := by kernel_rfl
/-- What a call that hands back an array of bytes does. -/
def RetA (w : World) (l : List UInt8) (e : Ending) (w' : World) : Prop := e = .returned (.agg (cellsB l).toArray) ∧ Below w.heap.size w w'

set_option maxRecDepth 100000 in
set_option maxHeartbeats 400000 in
theorem masked_any (l : List UInt8) (m : UInt8) (w : World) (hl : l.length = 64) :
    Calls Try.prog 32 #[.agg (cellsB l).toArray, .int .u8 (m.toNat : Int)] w (RetA w (xorB m l)) := by
  have HL := Lib.hid hl
  clear hl
  go_enter Try.func32, Try.ntmps32
  go_wp2_with fail
  go_loopw [6] (fun i wr => ∃ j : Nat, j ≤ 64 ∧ i = .int .i64 (j : Int) ∧ MkR w wr (xorN m l j)) (fun i _ => 64 - (intOf i).toNat)
  case atStart => exact ⟨0, by omega, rfl, by rw [xorN_zero]; exact MkR.new w l⟩
  case round =>
    obtain ⟨j, hj, rfl, hR⟩ := hrel
    by_cases hlt : j < 64
    · obtain ⟨x, hx⟩ : ∃ x, l[j]? = some x := ⟨_, List.getElem?_eq_getElem (by rw [HL.out]; exact hlt)⟩
      have c1 := hR.1.cell (xorN_at m l j x hx)
      have f1 := hR.1.frozen j
      have HX := Lib.hid hx
      have HR := Lib.hid hR
      have e8 := xor8 x m
      clear hx hR
      go_wp2_with fail
      go_roundw
      case rel =>
        refine ⟨j + 1, by omega, by go_num, ?_⟩
        rw [← xorN_set m l j x HX.out]
        exact HR.out.put (by first | exact e8 | rfl)
      case measure => simp [intOf]; omega
    · obtain rfl : j = 64 := by omega
      rw [xorN_all m l 64 (by rw [HL.out]; exact Nat.le_refl _)] at hR
      have hsz : (cellsB (xorB m l)).toArray.size = 64 := by rw [cellsB_size, xorB_len]; exact HL.out
      have iv : (Try.prog.info? 45).map (·.size) = some (cellsB (xorB m l)).toArray.size := by rw [hsz]; exact infoBlk
      have hz : (cellsB (List.replicate 64 0)).toArray.size = (cellsB (xorB m l)).toArray.size := by rw [hsz]; rfl
      have H1 := Lib.hid hR.1
      have H2 := Lib.hid hR.2.1
      have HB := Lib.hid hR.2.2
      have IV := Lib.hid iv
      have HZ := Lib.hid hz
      clear hsz iv hz hR
      go_wp2_with (first
        | (refine wpList_load_row rfl 45 (.tmp 2) rfl w.heap.size rfl 45 (cellsB (xorB m l)).toArray (0, 0) _ H1.out Try.underlying45 rfl IV.out ?_)
        | (refine wpList_store_row rfl 45 (.tmp 4) (.tmp 16) rfl (w.heap.size + 1) (cellsB (xorB m l)).toArray rfl rfl 45 _ H2.out IV.out HZ.out (cellsB_ones _) ?_))
      refine bodyPost_ret (v := .agg (cellsB (xorB m l)).toArray) ?_ (by rfl) ?_
      · exact results_cell_row (p := 4) (ty := 45) rfl _ _ (w.heap.size + 1) 45 (cellsB (xorB m l)).toArray _ _ rfl (setRow_heap _ _ _ _ 45 _ H2.out) Try.underlying45 rfl IV.out
      · exact ⟨rfl, below_setRow HB.out (by omega) _⟩
end Go.Proofs.Ytkpmfpbeidhcbaa
