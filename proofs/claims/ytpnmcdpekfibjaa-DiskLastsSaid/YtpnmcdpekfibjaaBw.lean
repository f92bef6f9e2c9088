/-
  Own work. Bytes in a block known whole. (With the kit's tactics that all later texts use.)
-/
import Derived.Test.YtpnmcdpekfibjaaByt
import Derived.Deep.QuietTactic
import Derived.BigQuiet
import Derived.BigRegion
import Derived.Deep.RegionWith
import Derived.Laws.BitsAllLaws
import Derived.Great.BuildSlice
import Derived.Laws.CopyOwn
import Derived.WalkSmall
import Derived.Deep.RegionHeld3
import Derived.IntWalk
import Derived.ChangeKeysEq
import Derived.DeepKeys
import Derived.Maps.AppendAt
import Derived.OrdersHeld
import Derived.Deep.RegionHeld
import Derived.Deep.RegionLaw
import Derived.Deep.DeepCutAuto
import Derived.Lib.SmallJoins
import Derived.StillTailTactics
namespace Go.Proofs.Ytpnmcdpekfibjaa
open Go.RowKit
set_option linter.unusedVariables false
set_option linter.unusedSimpArgs false

theorem cellsB_size (b : List UInt8) : (cellsB b).toArray.size = b.length := by simp [cellsB]

/-- Bytes in a block. -/
def Bw (w : World) (g : Nat) (t : TypeId) (l : List UInt8) : Prop := w.heap[g]? = some (.cells (cellsB l).toArray t (0, 0))
theorem Bw.cell {w : World} {g i : Nat} {x : UInt8} {t : TypeId} {l : List UInt8} (h : Bw w g t l) (hx : l[i]? = some x) : w.cell? ⟨g, i, none⟩ = some (.int .u8 (x.toNat : Int)) := by
  rw [cell_of_row w g i _ t (0, 0) h]
  simp [cellsB, hx]
theorem Bw.frozen {w : World} {g : Nat} {t : TypeId} {l : List UInt8} (h : Bw w g t l) (i : Nat) : w.frozen? ⟨g, i, none⟩ = false := frozen_of_row w g i _ t h
theorem Bw.set_ {w : World} {g i : Nat} {x : UInt8} {t : TypeId} {l : List UInt8} {y : Int} (h : Bw w g t l) (hy : y = (x.toNat : Int)) : Bw (w.setCell ⟨g, i, none⟩ (.int .u8 y)) g t (l.set i x) := by
  subst hy
  have := heap_setCell_same w g i _ t (.int .u8 (x.toNat : Int)) h
  unfold Bw
  rw [this]
  congr 2
  simp [cellsB, List.map_set]
theorem Bw.new (w : World) (l : List UInt8) (t : TypeId) : Bw (w.alloc (.cells (cellsB l).toArray t)) w.heap.size t l := heap_alloc_new w _
theorem Bw.lt {w : World} {g : Nat} {t : TypeId} {l : List UInt8} (h : Bw w g t l) : g < w.heap.size := (Array.getElem?_eq_some_iff.1 h).1
theorem Bw.alloc {w : World} {g : Nat} {t : TypeId} {l : List UInt8} (h : Bw w g t l) (o : Obj) : Bw (w.alloc o) g t l := (Below.heap_alloc w o g h.lt).trans h
theorem Bw.far {w : World} {g : Nat} {t : TypeId} {l : List UInt8} (h : Bw w g t l) {p : Addr} (hp : g ≠ p.block) (u : Value) : Bw (w.setCell p u) g t l := (heap_setCell_other w p g u hp).trans h
theorem Bw.drewN {w : World} {g : Nat} {t : TypeId} {l : List UInt8} (h : Bw w g t l) (n : Nat) : Bw (w.drewN n) g t l := h
theorem Bw.below {w w' : World} {g B : Nat} {t : TypeId} {l : List UInt8} (h : Bw w g t l) (hb : Below B w w') (hg : g < B) : Bw w' g t l := (hb.block g hg).trans h
theorem cellsB_ones (l : List UInt8) : ((cellsB l).toArray).all (·.oneCell') = true := by
  rw [Array.all_eq_true]
  intro i hi
  simp [cellsB, Value.oneCell']
theorem Bw.row {w : World} {g : Nat} {t : TypeId} {l m : List UInt8} (h : Bw w g t l) : Bw (w.setRow g (cellsB m).toArray) g t m := setRow_heap w g _ _ t _ h
theorem Bw.rowFar {w : World} {g g' : Nat} {t : TypeId} {l : List UInt8} (h : Bw w g t l) (hne : g ≠ g') (cs : Array Value) : Bw (w.setRow g' cs) g t l := (setRow_other w g' g cs hne).trans h

def zer (n : Nat) : List UInt8 := List.replicate n 0
theorem zer_len (n : Nat) : (zer n).length = n := by simp [zer]
theorem below_row {B g : Nat} {a w w' : World} (h : Below B a w) (hg : w.grownBy w' (some g)) (hB : B ≤ g) (hs : B ≤ w.heap.size) : Below B a w' :=
  h.trans ⟨hg.os, hg.tape, hg.output, hg.size, fun k hk => hg.block k (by omega) (by intro e; injection e; omega)⟩
theorem keptG {w w' : World} {g k : Nat} {t : TypeId} {l : List UInt8} (h : Bw w k t l) (hg : w.grownBy w' (some g)) (hne : k ≠ g) : Bw w' k t l :=
  (hg.block k h.lt (by intro e; injection e; omega)).trans h
end Go.Proofs.Ytpnmcdpekfibjaa
