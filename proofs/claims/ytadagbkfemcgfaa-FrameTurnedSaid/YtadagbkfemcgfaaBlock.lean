/-
  Own work. SHA-256's block, as the document's answer has it.
-/
import Derived.Test.YtadagbkfemcgfaaRot
import Derived.Deep.QuietTactic
import Derived.BigQuiet
import Derived.BigRegion
import Derived.Deep.RegionWith
namespace Go.Proofs.Ytadagbkfemcgfaa
open Go.RowKit
set_option linter.unusedVariables false

/-- Words in a block. -/
def wordsV (l : List Nat) : Array Value := (l.map fun (x : Nat) => Value.int .u64 (x : Int)).toArray
def Wd (w : World) (g : Nat) (t : TypeId) (l : List Nat) : Prop := w.heap[g]? = some (.cells (wordsV l) t (0, 0))
theorem Wd.cell {w : World} {g i x : Nat} {t : TypeId} {l : List Nat} (h : Wd w g t l) (hx : l[i]? = some x) : w.cell? ⟨g, i, none⟩ = some (.int .u64 (x : Int)) := by
  rw [cell_of_row w g i _ t (0, 0) h]
  simp [wordsV, hx]
theorem Wd.frozen {w : World} {g : Nat} {t : TypeId} {l : List Nat} (h : Wd w g t l) (i : Nat) : w.frozen? ⟨g, i, none⟩ = false := frozen_of_row w g i _ t h
theorem Wd.set_ {w : World} {g i x : Nat} {t : TypeId} {l : List Nat} {y : Int} (h : Wd w g t l) (hy : y = (x : Int)) : Wd (w.setCell ⟨g, i, none⟩ (.int .u64 y)) g t (l.set i x) := by
  subst hy
  have := heap_setCell_same w g i _ t (.int .u64 (x : Int)) h
  unfold Wd
  rw [this]
  congr 2
  simp [wordsV, List.map_set]

theorem Wd.new (w : World) (l : List Nat) (t : TypeId) : Wd (w.alloc (.cells (wordsV l) t)) w.heap.size t l := heap_alloc_new w _
theorem Wd.lt {w : World} {g : Nat} {t : TypeId} {l : List Nat} (h : Wd w g t l) : g < w.heap.size := (Array.getElem?_eq_some_iff.1 h).1
theorem Wd.alloc {w : World} {g : Nat} {t : TypeId} {l : List Nat} (h : Wd w g t l) (o : Obj) : Wd (w.alloc o) g t l := (Below.heap_alloc w o g h.lt).trans h
theorem Wd.far {w : World} {g : Nat} {t : TypeId} {l : List Nat} (h : Wd w g t l) {p : Addr} (hp : g ≠ p.block) (u : Value) : Wd (w.setCell p u) g t l := (heap_setCell_other w p g u hp).trans h
theorem Wd.drewN {w : World} {g : Nat} {t : TypeId} {l : List Nat} (h : Wd w g t l) (n : Nat) : Wd (w.drewN n) g t l := h
theorem wordsV_size (l : List Nat) : (wordsV l).size = l.length := by simp [wordsV]
theorem wordsV_one (l : List Nat) : (wordsV l).all (·.oneCell') = true := by
  rw [Array.all_eq_true]
  intro i hi
  simp [wordsV, Value.oneCell']
theorem Wd.row {w : World} {g : Nat} {t : TypeId} {l m : List Nat} (h : Wd w g t l) : Wd (w.setRow g (wordsV m)) g t m := setRow_heap w g _ _ t _ h
theorem Wd.rowFar {w : World} {g g' : Nat} {t : TypeId} {l : List Nat} (h : Wd w g t l) (hne : g ≠ g') (cs : Array Value) : Wd (w.setRow g' cs) g t l := (setRow_other w g' g cs hne).trans h

def s0 (x : Nat) : Nat := rotr 7 x ^^^ rotr 18 x ^^^ x / 2 ^ 3
def s1 (x : Nat) : Nat := rotr 17 x ^^^ rotr 19 x ^^^ x / 2 ^ 10
/-- The word of the schedule at i. -/
def schedW (w : List Nat) (i : Nat) : Nat := (w.getD (i - 16) 0 + s0 (w.getD (i - 15) 0) + w.getD (i - 7) 0 + s1 (w.getD (i - 2) 0)) % 4294967296
def schedN (w : List Nat) : Nat → List Nat
  | 0 => w
  | j + 1 => (schedN w j).set (16 + j) (schedW (schedN w j) (16 + j))
def Small (l : List Nat) : Prop := ∀ x ∈ l, x < 4294967296
theorem schedN_len (w : List Nat) : ∀ j, (schedN w j).length = w.length
  | 0 => rfl
  | j + 1 => by rw [schedN, List.length_set, schedN_len w j]
theorem Small.set_ {l : List Nat} {i x : Nat} (h : Small l) (hx : x < 4294967296) : Small (l.set i x) := by
  intro y hy
  rcases List.mem_or_eq_of_mem_set hy with h1 | rfl
  · exact h y h1
  · exact hx
theorem schedN_small (w : List Nat) (h : Small w) : ∀ j, Small (schedN w j)
  | 0 => h
  | j + 1 => (schedN_small w h j).set_ (Nat.mod_lt _ (by omega))
theorem Small.at_ {l : List Nat} {i x : Nat} (h : Small l) (hx : l[i]? = some x) : x < 4294967296 := h x (List.mem_of_getElem? hx)
theorem word_at (l : List Nat) (i : Nat) (h : i < l.length) : ∃ x, l[i]? = some x ∧ l.getD i 0 = x := ⟨l[i], List.getElem?_eq_getElem h, by simp [List.getD, h]⟩

theorem xor_lt32 {a b : Nat} (ha : a < 4294967296) (hb : b < 4294967296) : a ^^^ b < 4294967296 := Nat.xor_lt_two_pow (n := 32) ha hb
theorem xor64 (a b : Nat) (ha : a < 4294967296) (hb : b < 4294967296) : bits .xor .u64 (a : Int) (b : Int) = ((a ^^^ b : Nat) : Int) := u64_xor_nat a b (by omega) (by omega)
theorem s0_bits (x : Nat) (hx : x < 4294967296) : bits .xor .u64 (bits .xor .u64 ((rotr 7 x : Nat) : Int) ((rotr 18 x : Nat) : Int)) ((x : Int) / 8) = ((s0 x : Nat) : Int) := by
  have h1 := rotr_lt 7 x (by omega) hx
  have h2 := rotr_lt 18 x (by omega) hx
  have e : ((x : Int) / 8) = ((x / 8 : Nat) : Int) := by omega
  rw [xor64 _ _ h1 h2, e, xor64 _ _ (xor_lt32 h1 h2) (by omega)]
  rfl
theorem s1_bits (x : Nat) (hx : x < 4294967296) : bits .xor .u64 (bits .xor .u64 ((rotr 17 x : Nat) : Int) ((rotr 19 x : Nat) : Int)) ((x : Int) / 1024) = ((s1 x : Nat) : Int) := by
  have h1 := rotr_lt 17 x (by omega) hx
  have h2 := rotr_lt 19 x (by omega) hx
  have e : ((x : Int) / 1024) = ((x / 1024 : Nat) : Int) := by omega
  rw [xor64 _ _ h1 h2, e, xor64 _ _ (xor_lt32 h1 h2) (by omega)]
  rfl
theorem s0_lt (x : Nat) (hx : x < 4294967296) : s0 x < 4294967296 := xor_lt32 (xor_lt32 (rotr_lt 7 x (by omega) hx) (rotr_lt 18 x (by omega) hx)) (by omega)
theorem s1_lt (x : Nat) (hx : x < 4294967296) : s1 x < 4294967296 := xor_lt32 (xor_lt32 (rotr_lt 17 x (by omega) hx) (rotr_lt 19 x (by omega) hx)) (by omega)

def S0 (a : Nat) : Nat := rotr 2 a ^^^ rotr 13 a ^^^ rotr 22 a
def S1 (e : Nat) : Nat := rotr 6 e ^^^ rotr 11 e ^^^ rotr 25 e
def chS (e f g : Nat) : Nat := (e &&& f) ^^^ ((4294967295 - e) &&& g)
def majS (a b c : Nat) : Nat := (a &&& b) ^^^ (a &&& c) ^^^ (b &&& c)
def tS (e f g h k x : Nat) : Nat := h + S1 e + chS e f g + k + x
/-- One round over eight words. -/
def roundS (v : List Nat) (k x : Nat) : List Nat :=
  match v with
  | [a, b, c, d, e, f, g, h] => [(tS e f g h k x + S0 a + majS a b c) % 4294967296, a, b, c, (d + tS e f g h k x) % 4294967296, e, f, g]
  | _ => v
def roundN (v k x : List Nat) : Nat → List Nat
  | 0 => v
  | j + 1 => roundS (roundN v k x j) (k.getD j 0) (x.getD j 0)
theorem eight {v : List Nat} (h : v.length = 8) : ∃ a b c d e f g i, v = [a, b, c, d, e, f, g, i] := by
  match v, h with
  | [a, b, c, d, e, f, g, i], _ => exact ⟨a, b, c, d, e, f, g, i, rfl⟩
theorem roundN_len (v k x : List Nat) (h : v.length = 8) : ∀ j, (roundN v k x j).length = 8
  | 0 => h
  | j + 1 => by
    obtain ⟨a, b, c, d, e, f, g, i, hv⟩ := eight (roundN_len v k x h j)
    rw [roundN, hv]; rfl
theorem roundN_small (v k x : List Nat) (h : v.length = 8) (hs : Small v) : ∀ j, Small (roundN v k x j)
  | 0 => hs
  | j + 1 => by
    have ih := roundN_small v k x h hs j
    obtain ⟨a, b, c, d, e, f, g, i, hv⟩ := eight (roundN_len v k x h j)
    rw [hv] at ih
    rw [roundN, hv]
    intro y hy
    simp only [roundS, List.mem_cons, List.not_mem_nil, or_false] at hy
    rcases hy with rfl | rfl | rfl | rfl | rfl | rfl | rfl | rfl
    · exact Nat.mod_lt _ (by omega)
    · exact ih _ (by simp)
    · exact ih _ (by simp)
    · exact ih _ (by simp)
    · exact Nat.mod_lt _ (by omega)
    · exact ih _ (by simp)
    · exact ih _ (by simp)
    · exact ih _ (by simp)
theorem and_lt32 {a b : Nat} (ha : a < 4294967296) : a &&& b < 4294967296 := Nat.lt_of_le_of_lt Nat.and_le_left ha
theorem and64 (a b : Nat) (ha : a < 4294967296) (hb : b < 4294967296) : bits .and .u64 (a : Int) (b : Int) = ((a &&& b : Nat) : Int) := u64_and_nat a b (by omega) (by omega)
theorem S1_bits (x : Nat) (hx : x < 4294967296) : bits .xor .u64 (bits .xor .u64 ((rotr 6 x : Nat) : Int) ((rotr 11 x : Nat) : Int)) ((rotr 25 x : Nat) : Int) = ((S1 x : Nat) : Int) := by
  rw [xor64 _ _ (rotr_lt 6 x (by omega) hx) (rotr_lt 11 x (by omega) hx), xor64 _ _ (xor_lt32 (rotr_lt 6 x (by omega) hx) (rotr_lt 11 x (by omega) hx)) (rotr_lt 25 x (by omega) hx)]
  rfl
theorem S0_bits (x : Nat) (hx : x < 4294967296) : bits .xor .u64 (bits .xor .u64 ((rotr 2 x : Nat) : Int) ((rotr 13 x : Nat) : Int)) ((rotr 22 x : Nat) : Int) = ((S0 x : Nat) : Int) := by
  rw [xor64 _ _ (rotr_lt 2 x (by omega) hx) (rotr_lt 13 x (by omega) hx), xor64 _ _ (xor_lt32 (rotr_lt 2 x (by omega) hx) (rotr_lt 13 x (by omega) hx)) (rotr_lt 22 x (by omega) hx)]
  rfl
theorem ch_bits (e f g : Nat) (he : e < 4294967296) (hf : f < 4294967296) (hg : g < 4294967296) : bits .xor .u64 (bits .and .u64 (e : Int) (f : Int)) (bits .and .u64 (4294967295 - (e : Int)) (g : Int)) = ((chS e f g : Nat) : Int) := by
  have q : (4294967295 - (e : Int)) = ((4294967295 - e : Nat) : Int) := by omega
  rw [q, and64 _ _ he hf, and64 _ _ (by omega) hg, xor64 _ _ (and_lt32 he) (and_lt32 (by omega))]
  rfl
theorem maj_bits (a b c : Nat) (ha : a < 4294967296) (hb : b < 4294967296) (hc : c < 4294967296) : bits .xor .u64 (bits .xor .u64 (bits .and .u64 (a : Int) (b : Int)) (bits .and .u64 (a : Int) (c : Int))) (bits .and .u64 (b : Int) (c : Int)) = ((majS a b c : Nat) : Int) := by
  rw [and64 _ _ ha hb, and64 _ _ ha hc, and64 _ _ hb hc, xor64 _ _ (and_lt32 ha) (and_lt32 ha), xor64 _ _ (xor_lt32 (and_lt32 ha) (and_lt32 ha)) (and_lt32 hb)]
  rfl
theorem S1_lt (x : Nat) (hx : x < 4294967296) : S1 x < 4294967296 := xor_lt32 (xor_lt32 (rotr_lt 6 x (by omega) hx) (rotr_lt 11 x (by omega) hx)) (rotr_lt 25 x (by omega) hx)
theorem S0_lt (x : Nat) (hx : x < 4294967296) : S0 x < 4294967296 := xor_lt32 (xor_lt32 (rotr_lt 2 x (by omega) hx) (rotr_lt 13 x (by omega) hx)) (rotr_lt 22 x (by omega) hx)
theorem ch_lt (e f g : Nat) (he : e < 4294967296) : chS e f g < 4294967296 := xor_lt32 (and_lt32 he) (and_lt32 (by omega))
theorem maj_lt (a b c : Nat) (ha : a < 4294967296) (hb : b < 4294967296) : majS a b c < 4294967296 := xor_lt32 (xor_lt32 (and_lt32 ha) (and_lt32 ha)) (and_lt32 hb)
theorem and_all (y : Nat) (hy : y < 18446744073709551616) : bits .and .u64 (y : Int) 4294967295 = ((y % 4294967296 : Nat) : Int) := by
  rw [and_low32 _ (by omega) (by omega)]; omega

/-- The words behind a block. -/
def addW (h v : List Nat) : Nat → List Nat
  | 0 => h
  | j + 1 => (addW h v j).set j ((h.getD j 0 + v.getD j 0) % 4294967296)

/-- What the block's loops hold: five blocks of words, and that nothing that was there has turned. -/
def BlkR (w wr : World) (h ws k z : List Nat) : Prop :=
  Wd wr w.heap.size 142 h ∧ Wd wr (w.heap.size + 1) 140 ws ∧ Wd wr (w.heap.size + 1 + 1) 140 k ∧ Wd wr (w.heap.size + 1 + 1 + 1) 142 z ∧ Below w.heap.size w wr

theorem BlkR.put {w wr : World} {h ws k z : List Nat} (b : BlkR w wr h ws k z) {g : Nat} (hg : w.heap.size + 1 + 1 + 1 < g) (i : Nat) (u : Value) : BlkR w (wr.setCell ⟨g, i, none⟩ u) h ws k z := by
  obtain ⟨h0, h1, h2, h3, hb⟩ := b
  exact ⟨h0.far (show w.heap.size ≠ g by omega) _, h1.far (show w.heap.size + 1 ≠ g by omega) _, h2.far (show w.heap.size + 1 + 1 ≠ g by omega) _, h3.far (show w.heap.size + 1 + 1 + 1 ≠ g by omega) _, hb.setCell (p := ⟨g, i, none⟩) (show w.heap.size ≤ g by omega) _⟩
theorem BlkR.drewN {w wr : World} {h ws k z : List Nat} (b : BlkR w wr h ws k z) (n : Nat) : BlkR w (wr.drewN n) h ws k z :=
  ⟨b.1, b.2.1, b.2.2.1, b.2.2.2.1, b.2.2.2.2.os, b.2.2.2.2.tape, b.2.2.2.2.output, b.2.2.2.2.size, b.2.2.2.2.block⟩
theorem addW_len (h v : List Nat) : ∀ j, (addW h v j).length = h.length
  | 0 => rfl
  | j + 1 => by rw [addW, List.length_set, addW_len h v j]
theorem addW_get (h v : List Nat) : ∀ j i, j ≤ i → (addW h v j)[i]? = h[i]?
  | 0, _, _ => rfl
  | j + 1, i, hi => by rw [addW, List.getElem?_set_ne (by omega), addW_get h v j i (by omega)]
/-- The words behind a block. -/
def blockS (h ws k : List Nat) : List Nat := addW h (roundN h k (schedN ws 48) 64) 8
def RetBlk (w : World) (l : List Nat) (e : Ending) (w' : World) : Prop := e = .returned (.agg (wordsV l)) ∧ Below w.heap.size w w'

set_option maxRecDepth 100000 in
set_option maxHeartbeats 1500000 in
theorem block_any (h k ws : List Nat) (w : World) (hh : h.length = 8) (hw : ws.length = 64) (hk : k.length = 64) (sh : Small h) (sw : Small ws) (sk : Small k) :
    Calls Try.prog 90 #[.agg (wordsV h), .agg (wordsV ws), .agg (wordsV k)] w (RetBlk w (blockS h ws k)) := by
  have HH := Lib.hid hh
  have HWL := Lib.hid hw
  have HK := Lib.hid hk
  clear hh hw hk
  have inf8 : (Try.prog.info? 142).map (·.size) = some 8 := by kernel_rfl
  go_enter Try.func90, Try.ntmps90
  go_wp2_with fail
  have d1 : BlkR w ((((w.alloc (.cells (wordsV h) 142)).alloc (.cells (wordsV ws) 140)).alloc (.cells (wordsV k) 140)).alloc (.cells (wordsV [0, 0, 0, 0, 0, 0, 0, 0]) 142)) h ws k [0, 0, 0, 0, 0, 0, 0, 0] := by
    refine ⟨(((Wd.new _ _ _).alloc _).alloc _).alloc _, ?_, ?_, ?_, ?_⟩
    · have := (((Wd.new (w.alloc (.cells (wordsV h) 142)) ws 140).alloc (.cells (wordsV k) 140)).alloc (.cells (wordsV [0, 0, 0, 0, 0, 0, 0, 0]) 142))
      simpa using this
    · have := ((Wd.new ((w.alloc (.cells (wordsV h) 142)).alloc (.cells (wordsV ws) 140)) k 140).alloc (.cells (wordsV [0, 0, 0, 0, 0, 0, 0, 0]) 142))
      simpa using this
    · have := Wd.new (((w.alloc (.cells (wordsV h) 142)).alloc (.cells (wordsV ws) 140)).alloc (.cells (wordsV k) 140)) [0, 0, 0, 0, 0, 0, 0, 0] 142
      simpa using this
    · exact ((((Below.refl _ _).alloc (Nat.le_refl _) _).alloc (by simp) _).alloc (by simp; omega) _).alloc (by simp; omega) _
  go_loopw [7] (fun i wr => ∃ j : Nat, j ≤ 48 ∧ i = .int .i64 ((16 + j : Nat) : Int) ∧ BlkR w wr h (schedN ws j) k [0, 0, 0, 0, 0, 0, 0, 0]) (fun i _ => 64 - (intOf i).toNat)
  case atStart => exact ⟨0, by omega, rfl, d1⟩
  case round =>
    obtain ⟨j, hj, rfl, hW0, hW, hW2, hW3, hbel⟩ := hrel
    by_cases hlt : j < 48
    · have hlen : (schedN ws j).length = 64 := by rw [schedN_len, HWL.out]
      have hsm := schedN_small ws sw j
      have hnx : schedN ws (j + 1) = (schedN ws j).set (16 + j) (schedW (schedN ws j) (16 + j)) := rfl
      obtain ⟨x1, a1, b1⟩ := word_at (schedN ws j) (16 + j - 15) (by omega)
      obtain ⟨x2, a2, b2⟩ := word_at (schedN ws j) (16 + j - 2) (by omega)
      obtain ⟨x3, a3, b3⟩ := word_at (schedN ws j) (16 + j - 16) (by omega)
      obtain ⟨x4, a4, b4⟩ := word_at (schedN ws j) (16 + j - 7) (by omega)
      obtain ⟨x5, a5, b5⟩ := word_at (schedN ws j) (16 + j) (by omega)
      have c1 := hW.cell a1
      have c2 := hW.cell a2
      have c3 := hW.cell a3
      have c3' : wr.cell? ⟨w.heap.size + 1, j, none⟩ = some (.int .u64 (x3 : Int)) := by rw [show j = 16 + j - 16 by omega]; exact c3
      have c4 := hW.cell a4
      have c5 := hW.cell a5
      have cf := hW.frozen (16 + j)
      have l1 := hsm.at_ a1
      have l2 := hsm.at_ a2
      have l3 := hsm.at_ a3
      have l4 := hsm.at_ a4
      have q0 := s0_bits x1 l1
      have q1 := s1_bits x2 l2
      have m0 := s0_lt x1 l1
      have m1 := s1_lt x2 l2
      have hval : schedW (schedN ws j) (16 + j) = (x3 + s0 x1 + x4 + s1 x2) % 4294967296 := by unfold schedW; rw [b1, b2, b3, b4]
      rw [hval] at hnx
      have HNX := Lib.hid hnx
      have H0 := Lib.hid hW0
      have HW := Lib.hid hW
      have H2 := Lib.hid hW2
      have H3 := Lib.hid hW3
      have HB := Lib.hid hbel
      clear hnx hW hsm hlen a1 a2 a3 a4 a5 b1 b2 b3 b4 b5 hval hW0 hW2 hW3 hbel d1
      go_wp2_with fail
      go_quiet (fail)
      go_wp2_with (first
        | (go_at_call_of 106 (Value.int IntKind.i64 7); refine (turn_any _ 7 _ (by assumption) (by omega)).mono ?_; rintro e w' ⟨rfl, rfl⟩)
        | (go_at_call_of 106 (Value.int IntKind.i64 18); refine (turn_any _ 18 _ (by assumption) (by omega)).mono ?_; rintro e w' ⟨rfl, rfl⟩)
        | (go_at_call_of 106 (Value.int IntKind.i64 17); refine (turn_any _ 17 _ (by assumption) (by omega)).mono ?_; rintro e w' ⟨rfl, rfl⟩)
        | (go_at_call_of 106 (Value.int IntKind.i64 19); refine (turn_any _ 19 _ (by assumption) (by omega)).mono ?_; rintro e w' ⟨rfl, rfl⟩)
        | (go_at_call_of 107 (Value.int IntKind.i64 3); refine (down_any _ 3 _ (by assumption) (by omega)).mono ?_; rintro e w' ⟨rfl, rfl⟩)
        | (go_at_call_of 107 (Value.int IntKind.i64 10); refine (down_any _ 10 _ (by assumption) (by omega)).mono ?_; rintro e w' ⟨rfl, rfl⟩))
      go_region
      all_goals go_wp2_with fail
      all_goals
        go_roundw
        case rel =>
          refine ⟨j + 1, by omega, by go_num, H0.out.far (show w.heap.size ≠ w.heap.size + 1 by omega) _, ?_, H2.out.far (show w.heap.size + 1 + 1 ≠ w.heap.size + 1 by omega) _, H3.out.far (show w.heap.size + 1 + 1 + 1 ≠ w.heap.size + 1 by omega) _, ?_⟩
          · rw [HNX.out]
            exact Wd.set_ (w := wr.drewN _) HW.out (by have := and_all (x3 + s0 x1 + x4 + s1 x2) (by omega); rw [← this]; congr 1)
          · exact Below.setCell (a := w) (w := wr.drewN _) ⟨HB.out.os, HB.out.tape, HB.out.output, HB.out.size, HB.out.block⟩ (by simp) _
        case measure => simp [intOf]; omega
    · obtain rfl : j = 48 := by omega
      obtain ⟨wo, rfl⟩ : ∃ wo : World, wo = wr := ⟨_, rfl⟩
      have iv : (Try.prog.info? 142).map (·.size) = some (wordsV h).size := by rw [wordsV_size, HH.out]; exact inf8
      have hz : (#[Value.int .u64 0, .int .u64 0, .int .u64 0, .int .u64 0, .int .u64 0, .int .u64 0, .int .u64 0, .int .u64 0] : Array Value).size = (wordsV h).size := by rw [wordsV_size, HH.out]; rfl
      have lt3 := hW3.lt
      have e2 : Wd ((wo.alloc (.cells #[Value.int .u64 0, .int .u64 0, .int .u64 0, .int .u64 0, .int .u64 0, .int .u64 0, .int .u64 0, .int .u64 0] 142)).setRow wo.heap.size (wordsV h)) wo.heap.size 142 h := setRow_heap _ _ _ _ 142 _ (heap_alloc_new wo _)
      have e0 : BlkR w ((wo.alloc (.cells #[Value.int .u64 0, .int .u64 0, .int .u64 0, .int .u64 0, .int .u64 0, .int .u64 0, .int .u64 0, .int .u64 0] 142)).setRow wo.heap.size (wordsV h)) h (schedN ws 48) k [0, 0, 0, 0, 0, 0, 0, 0] :=
        ⟨(hW0.alloc _).rowFar (by omega) _, (hW.alloc _).rowFar (by omega) _, (hW2.alloc _).rowFar (by omega) _, (hW3.alloc _).rowFar (by omega) _,
          (hbel.alloc hbel.size _).trans ⟨rfl, rfl, rfl, by simp, fun q hq => setRow_other _ _ _ _ (by omega)⟩⟩
      have HZ := Lib.hid hz
      have IV := Lib.hid iv
      have E0 := Lib.hid e0
      have E2 := Lib.hid e2
      have H0 := Lib.hid hW0
      have LT := Lib.hid lt3
      clear hz iv e0 e2 hW0 hW hW2 hW3 hbel d1 lt3
      go_wp2_with (first
        | (refine wpList_load_row rfl 142 (.tmp 3) rfl w.heap.size rfl 142 (wordsV h) (0, 0) _ H0.out Try.underlying142 rfl IV.out ?_)
        | (refine wpList_store_row rfl 142 (.tmp 12) (.tmp 66) rfl wo.heap.size (wordsV h) rfl rfl 142 _ (heap_alloc_new wo _) IV.out HZ.out (wordsV_one h) ?_))
      go_loopw [13] (fun i wr => ∃ j : Nat, j ≤ 64 ∧ i = .int .i64 (j : Int) ∧ BlkR w wr h (schedN ws 48) k [0, 0, 0, 0, 0, 0, 0, 0] ∧ Wd wr wo.heap.size 142 (roundN h k (schedN ws 48) j)) (fun i _ => 64 - (intOf i).toNat)
      case atStart => exact ⟨0, by omega, rfl, E0.out, E2.out⟩
      case round =>
        obtain ⟨j, hj, rfl, ⟨h0, h1, h2, h3, hbel⟩, h4⟩ := hrel
        by_cases hlt : j < 64
        · obtain ⟨v0, v1, v2, v3, v4, v5, v6, v7, hv⟩ := eight (roundN_len h k (schedN ws 48) HH.out j)
          have sv := roundN_small h k (schedN ws 48) HH.out sh j
          rw [hv] at sv h4
          have hnx : roundN h k (schedN ws 48) (j + 1) = roundS [v0, v1, v2, v3, v4, v5, v6, v7] (k.getD j 0) ((schedN ws 48).getD j 0) := by rw [roundN, hv]
          obtain ⟨kj, ak, bk⟩ := word_at k j (by rw [HK.out]; exact hlt)
          obtain ⟨wj, aw, bw⟩ := word_at (schedN ws 48) j (by rw [schedN_len, HWL.out]; exact hlt)
          rw [bk, bw] at hnx
          have lk := sk.at_ ak
          have lw := (schedN_small ws sw 48).at_ aw
          have ck := h2.cell ak
          have cw := h1.cell aw
          have c0 : wr.cell? ⟨wo.heap.size, 0, none⟩ = some (.int .u64 (v0 : Int)) := h4.cell rfl
          have c1 : wr.cell? ⟨wo.heap.size, 1, none⟩ = some (.int .u64 (v1 : Int)) := h4.cell rfl
          have c2 : wr.cell? ⟨wo.heap.size, 2, none⟩ = some (.int .u64 (v2 : Int)) := h4.cell rfl
          have c3 : wr.cell? ⟨wo.heap.size, 3, none⟩ = some (.int .u64 (v3 : Int)) := h4.cell rfl
          have c4 : wr.cell? ⟨wo.heap.size, 4, none⟩ = some (.int .u64 (v4 : Int)) := h4.cell rfl
          have c5 : wr.cell? ⟨wo.heap.size, 5, none⟩ = some (.int .u64 (v5 : Int)) := h4.cell rfl
          have c6 : wr.cell? ⟨wo.heap.size, 6, none⟩ = some (.int .u64 (v6 : Int)) := h4.cell rfl
          have c7 : wr.cell? ⟨wo.heap.size, 7, none⟩ = some (.int .u64 (v7 : Int)) := h4.cell rfl
          have f0 := h4.frozen 0
          have f1 := h4.frozen 1
          have f2 := h4.frozen 2
          have f3 := h4.frozen 3
          have f4 := h4.frozen 4
          have f5 := h4.frozen 5
          have f6 := h4.frozen 6
          have f7 := h4.frozen 7
          have l0 : v0 < 4294967296 := sv _ (by simp)
          have l1 : v1 < 4294967296 := sv _ (by simp)
          have l2 : v2 < 4294967296 := sv _ (by simp)
          have l3 : v3 < 4294967296 := sv _ (by simp)
          have l4 : v4 < 4294967296 := sv _ (by simp)
          have l5 : v5 < 4294967296 := sv _ (by simp)
          have l6 : v6 < 4294967296 := sv _ (by simp)
          have l7 : v7 < 4294967296 := sv _ (by simp)
          have q1 := S1_bits v4 l4
          have q2 := S0_bits v0 l0
          have q3 := ch_bits v4 v5 v6 l4 l5 l6
          have q4 := maj_bits v0 v1 v2 l0 l1 l2
          have m1 := S1_lt v4 l4
          have m2 := S0_lt v0 l0
          have m3 := ch_lt v4 v5 v6 l4
          have m4 := maj_lt v0 v1 v2 l0 l1
          have HNX := Lib.hid hnx
          have HH4 := Lib.hid h4
          have HR : Hid (BlkR w wr h (schedN ws 48) k [0, 0, 0, 0, 0, 0, 0, 0]) := Lib.hid ⟨h0, h1, h2, h3, hbel⟩
          clear hnx h4 h0 h1 h2 h3 hbel sv hv ak bk aw bw
          go_wp2_with fail
          go_quiet (fail)
          go_wp2_with (first
          | (go_at_call_of 106 (Value.int IntKind.i64 6); refine (turn_any _ 6 _ (by assumption) (by omega)).mono ?_; rintro e w' ⟨rfl, rfl⟩)
          | (go_at_call_of 106 (Value.int IntKind.i64 11); refine (turn_any _ 11 _ (by assumption) (by omega)).mono ?_; rintro e w' ⟨rfl, rfl⟩)
          | (go_at_call_of 106 (Value.int IntKind.i64 25); refine (turn_any _ 25 _ (by assumption) (by omega)).mono ?_; rintro e w' ⟨rfl, rfl⟩))
          go_quiet (fail)
          go_wp2_with (first
          | (go_at_call_of 106 (Value.int IntKind.i64 2); refine (turn_any _ 2 _ (by assumption) (by omega)).mono ?_; rintro e w' ⟨rfl, rfl⟩)
          | (go_at_call_of 106 (Value.int IntKind.i64 13); refine (turn_any _ 13 _ (by assumption) (by omega)).mono ?_; rintro e w' ⟨rfl, rfl⟩)
          | (go_at_call_of 106 (Value.int IntKind.i64 22); refine (turn_any _ 22 _ (by assumption) (by omega)).mono ?_; rintro e w' ⟨rfl, rfl⟩))
          go_roundw
          case rel =>
            refine ⟨j + 1, by omega, by go_num, ((((((((HR.out.drewN _).put LT.out _ _).put LT.out _ _).put LT.out _ _).put LT.out _ _).put LT.out _ _).put LT.out _ _).put LT.out _ _).put LT.out _ _, ?_⟩
            rw [HNX.out]
            exact ((((((((HH4.out.drewN _).set_ (i := 0) (x := (tS v4 v5 v6 v7 kj wj + S0 v0 + majS v0 v1 v2) % 4294967296) (by have := and_all (tS v4 v5 v6 v7 kj wj + S0 v0 + majS v0 v1 v2) (by unfold tS; omega); rw [← this]; unfold tS; congr 1)).set_ (i := 1) (x := v0) rfl).set_ (i := 2) (x := v1) rfl).set_ (i := 3) (x := v2) rfl).set_ (i := 4) (x := (v3 + tS v4 v5 v6 v7 kj wj) % 4294967296) (by have := and_all (v3 + tS v4 v5 v6 v7 kj wj) (by unfold tS; omega); rw [← this]; unfold tS; congr 1)).set_ (i := 5) (x := v4) rfl).set_ (i := 6) (x := v5) rfl).set_ (i := 7) (x := v6) rfl
          case measure => simp [intOf]; omega
        · obtain rfl : j = 64 := by omega
          have hv8 := roundN_len h k (schedN ws 48) HH.out 64
          have sv := roundN_small h k (schedN ws 48) HH.out sh 64
          have hB : blockS h ws k = addW h (roundN h k (schedN ws 48) 64) 8 := rfl
          generalize roundN h k (schedN ws 48) 64 = V at *
          have HV8 := Lib.hid hv8
          have HBS := Lib.hid hB
          have HR : Hid (BlkR w wr (addW h V 0) (schedN ws 48) k [0, 0, 0, 0, 0, 0, 0, 0]) := Lib.hid ⟨h0, h1, h2, h3, hbel⟩
          have HV := Lib.hid h4
          clear hv8 hB h0 h1 h2 h3 hbel h4
          go_wp2_with fail
          obtain ⟨wp, rfl⟩ : ∃ wp : World, wp = wr := ⟨_, rfl⟩
          go_loopw [21] (fun i wr => ∃ j : Nat, j ≤ 8 ∧ i = .int .i64 (j : Int) ∧ BlkR w wr (addW h V j) (schedN ws 48) k [0, 0, 0, 0, 0, 0, 0, 0] ∧ Wd wr wo.heap.size 142 V) (fun i _ => 8 - (intOf i).toNat)
          case atStart => exact ⟨0, by omega, rfl, HR.out, HV.out⟩
          case round =>
            obtain ⟨j, hj, rfl, ⟨h0, h1, h2, h3, hbel⟩, h4⟩ := hrel
            by_cases hlt3 : j < 8
            · obtain ⟨a, aa, ba⟩ := word_at h j (by rw [HH.out]; exact hlt3)
              obtain ⟨b, ab, bb⟩ := word_at V j (by rw [HV8.out]; exact hlt3)
              have la := sh.at_ aa
              have lb := sv.at_ ab
              have ca := h0.cell ((addW_get h V j j (Nat.le_refl _)).trans aa)
              have cb := h4.cell ab
              have cf := h0.frozen j
              have hnx : addW h V (j + 1) = (addW h V j).set j ((a + b) % 4294967296) := by rw [addW, ba, bb]
              have HNX := Lib.hid hnx
              have HR3 : Hid (BlkR w wr (addW h V j) (schedN ws 48) k [0, 0, 0, 0, 0, 0, 0, 0]) := Lib.hid ⟨h0, h1, h2, h3, hbel⟩
              have HV4 := Lib.hid h4
              clear hnx h0 h1 h2 h3 hbel h4 aa ab ba bb
              go_wp2_with fail
              go_region
              all_goals go_wp2_with fail
              go_roundw
              case rel =>
                refine ⟨j + 1, by omega, by go_num, ⟨?_, HR3.out.2.1.far (show w.heap.size + 1 ≠ w.heap.size by omega) _, HR3.out.2.2.1.far (show w.heap.size + 1 + 1 ≠ w.heap.size by omega) _, HR3.out.2.2.2.1.far (show w.heap.size + 1 + 1 + 1 ≠ w.heap.size by omega) _, ?_⟩, HV4.out.far (show wo.heap.size ≠ w.heap.size by have := LT.out; omega) _⟩
                · rw [HNX.out]
                  exact Wd.set_ (w := wr.drew) HR3.out.1 (by have := and_all (a + b) (by omega); rw [← this]; congr 1)
                · exact Below.setCell (a := w) (w := wr.drew) ⟨HR3.out.2.2.2.2.os, HR3.out.2.2.2.2.tape, HR3.out.2.2.2.2.output, HR3.out.2.2.2.2.size, HR3.out.2.2.2.2.block⟩ (by simp) _
              case measure => simp [intOf]; omega
            · obtain rfl : j = 8 := by omega
              have iv : (Try.prog.info? 142).map (·.size) = some (wordsV (addW h V 8)).size := by rw [wordsV_size, addW_len, HH.out]; exact inf8
              have hz : (wordsV [0, 0, 0, 0, 0, 0, 0, 0]).size = (wordsV (addW h V 8)).size := by rw [wordsV_size, wordsV_size, addW_len, HH.out]; rfl
              have HZ2 := Lib.hid hz
              have IV2 := Lib.hid iv
              have H0 := Lib.hid h0
              have H3 := Lib.hid h3
              have HB := Lib.hid hbel
              clear hz iv h0 h1 h2 h3 hbel h4
              go_wp2_with (first
                | (refine wpList_load_row rfl 142 (.tmp 3) rfl w.heap.size rfl 142 (wordsV (addW h V 8)) (0, 0) _ H0.out Try.underlying142 rfl IV2.out ?_)
                | (refine wpList_store_row rfl 142 (.tmp 6) (.tmp 168) rfl (w.heap.size + 1 + 1 + 1) (wordsV (addW h V 8)) rfl rfl 142 _ H3.out IV2.out HZ2.out (wordsV_one _) ?_))
              refine bodyPost_ret (v := .agg (wordsV (addW h V 8))) ?_ (by rfl) ?_
              · exact results_cell_row (p := 6) (ty := 142) rfl _ _ (w.heap.size + 1 + 1 + 1) 142 (wordsV (addW h V 8)) _ _ rfl (setRow_heap _ _ _ _ 142 _ H3.out) Try.underlying142 rfl IV2.out
              · refine ⟨by rw [HBS.out], ?_⟩
                exact Below.trans ⟨HB.out.os, HB.out.tape, HB.out.output, HB.out.size, HB.out.block⟩ ⟨rfl, rfl, rfl, by simp, fun q hq => setRow_other _ _ _ _ (by omega)⟩
end Go.Proofs.Ytadagbkfemcgfaa
