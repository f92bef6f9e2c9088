/-
  Own work. The contract of sha's schedule.
-/
import Derived.Test.YtadagbkfemcgfaaIi
import Derived.Test.YtadagbkfemcgfaaMa
import Derived.Deep.RegionHeld3
import Derived.IntWalk
namespace Go.Proofs.Ytadagbkfemcgfaa
open Go.RowKit
set_option linter.unusedVariables false

/-- The first j words of a block, and zeros behind them. -/
def wsN (b : List UInt8) (j : Nat) : List Nat := (List.range j).map (fun i => wordB b (4 * i)) ++ List.replicate (64 - j) 0
theorem wsN_len (b : List UInt8) (j : Nat) (h : j ≤ 64) : (wsN b j).length = 64 := by simp [wsN]; omega
theorem wsN_small (b : List UInt8) (j : Nat) : Small (wsN b j) := by
  intro x hx
  simp only [wsN, List.mem_append, List.mem_map, List.mem_range, List.mem_replicate] at hx
  rcases hx with ⟨i, _, rfl⟩ | ⟨_, rfl⟩
  · exact wordB_lt _ _
  · omega
theorem wsN_set (b : List UInt8) (j : Nat) (h : j < 64) : (wsN b j).set j (wordB b (4 * j)) = wsN b (j + 1) := by
  unfold wsN
  rw [List.set_append_right _ _ (by simp), List.range_succ, List.map_append, List.append_assoc]
  congr 1
  rw [show 64 - j = (64 - (j + 1)) + 1 by omega, List.replicate_succ]
  simp

theorem infoBlock : (Try.prog.info? 154).map (·.size) = some 64 := by kernel_rfl
theorem word_at4 (b : List UInt8) (j : Nat) (w : World) (hb : b.length = 64) (hk : j < 16) :
    Calls Try.prog 128 #[.agg (cellsB b).toArray, .int .i64 (4 * (j : Int))] w fun e w' => e = .returned (.int .u32 ((wordB b (4 * j) : Nat) : Int)) ∧ Below w.heap.size w w' := by
  have := word_any b (4 * j) w hb (by omega)
  rwa [show ((4 * j : Nat) : Int) = 4 * (j : Int) by omega] at this

theorem cell_far {W : World} {g i k : Nat} {u v : Value} (h : W.cell? ⟨g, k, none⟩ = some v) (hne : k ≠ i) : (W.setCell ⟨g, i, none⟩ u).cell? ⟨g, k, none⟩ = some v := by
  rw [World.cell?_setCell_other W _ _ u (fun e => by simp at e <;> omega)]; exact h

def SchR (w wr : World) (b : List UInt8) (ws : List Nat) : Prop :=
  wr.heap[w.heap.size]? = some (.cells (cellsB b).toArray 154 (0, 0)) ∧ Ww wr (w.heap.size + 1) 165 (List.replicate 64 0) ∧ Ww wr (w.heap.size + 1 + 1) 165 ws ∧ Below w.heap.size w wr
theorem SchR.below {w wr wr' : World} {b : List UInt8} {ws : List Nat} (h : SchR w wr b ws) (hb : Below wr.heap.size wr wr') : SchR w wr' b ws := by
  obtain ⟨h0, h1, h2, h3⟩ := h
  exact ⟨(hb.block _ (Array.getElem?_eq_some_iff.1 h0).1).trans h0, h1.below hb h1.lt, h2.below hb h2.lt, h3.trans (hb.mono h3.size)⟩
theorem SchR.drewN {w wr : World} {b : List UInt8} {ws : List Nat} (h : SchR w wr b ws) (n : Nat) : SchR w (wr.drewN n) b ws := ⟨h.1, h.2.1, h.2.2.1, below_drewN h.2.2.2 n⟩
theorem SchR.put {w wr : World} {b : List UInt8} {ws : List Nat} (h : SchR w wr b ws) {i x : Nat} {y : Int} (hy : y = (x : Int)) : SchR w (wr.setCell ⟨w.heap.size + 1 + 1, i, none⟩ (.int .u32 y)) b (ws.set i x) := by
  obtain ⟨h0, h1, h2, h3⟩ := h
  exact ⟨(heap_setCell_other wr ⟨w.heap.size + 1 + 1, i, none⟩ _ _ (show w.heap.size ≠ w.heap.size + 1 + 1 by omega)).trans h0, h1.far (show w.heap.size + 1 ≠ w.heap.size + 1 + 1 by omega) _, h2.set_ hy, h3.setCell (p := ⟨w.heap.size + 1 + 1, i, none⟩) (show w.heap.size ≤ w.heap.size + 1 + 1 by omega) _⟩

theorem SchR.new (w : World) (b : List UInt8) : SchR w (((w.alloc (.cells (cellsB b).toArray 154)).alloc (.cells (wordsW (List.replicate 64 0)) 165)).alloc (.cells (wordsW (List.replicate 64 0)) 165)) b (wsN b 0) := by
  have e0 : wsN b 0 = List.replicate 64 0 := rfl
  rw [e0]
  refine ⟨?_, ?_, ?_, (((Below.refl _ _).alloc (Nat.le_refl _) _).alloc (by simp) _).alloc (by simp; omega) _⟩
  · exact (Below.heap_alloc _ _ _ (by simp; omega)).trans ((Below.heap_alloc _ _ _ (by simp)).trans (heap_alloc_new w _))
  · have := (Ww.new (w.alloc (.cells (cellsB b).toArray 154)) (List.replicate 64 0) 165).alloc (.cells (wordsW (List.replicate 64 0)) 165)
    simpa using this
  · have := Ww.new ((w.alloc (.cells (cellsB b).toArray 154)).alloc (.cells (wordsW (List.replicate 64 0)) 165)) (List.replicate 64 0) 165
    simpa using this

set_option maxRecDepth 100000 in
set_option maxHeartbeats 1000000 in
theorem sched_any (b : List UInt8) (w : World) (hb : b.length = 64) :
    Calls Try.prog 112 #[.agg (cellsB b).toArray] w fun e w' => e = .returned (.agg (wordsW (schedN (wsN b 16) 48))) ∧ Below w.heap.size w w' := by
  have ib : (Try.prog.info? 154).map (·.size) = some (cellsB b).toArray.size := by rw [cellsB_size, hb]; exact infoBlock
  have IB := Lib.hid ib
  have HB := Lib.hid hb
  clear ib hb
  go_enter Try.func112, Try.ntmps112
  go_wp2_with fail
  go_loopw [6] (fun i wr => ∃ j : Nat, j ≤ 16 ∧ i = .int .i64 (j : Int) ∧ SchR w wr b (wsN b j)) (fun i _ => 16 - (intOf i).toNat)
  case atStart => exact ⟨0, by omega, rfl, SchR.new w b⟩
  case round =>
    obtain ⟨j, hj, rfl, hR⟩ := hrel
    by_cases hlt : j < 16
    · have h0 := hR.1
      have H0 := Lib.hid h0
      have HR := Lib.hid hR
      have hwl := wordB_lt b (4 * j)
      clear h0 hR
      go_wp2_with (first
        | (refine wpList_load_row rfl 154 (.tmp 1) rfl w.heap.size rfl 154 (cellsB b).toArray (0, 0) _ H0.out Try.underlying154 rfl IB.out ?_)
        | (go_at_call 128; refine (word_at4 b j _ HB.out hlt).mono ?_; rintro e w1 ⟨rfl, hb1⟩
           have R1 := HR.out.below hb1
           have HR1 := Lib.hid R1
           obtain ⟨x, hx, _⟩ := word_at (wsN b j) j (by rw [wsN_len b j (by omega)]; omega)
           have c1 := R1.2.2.1.cell hx
           have f1 := R1.2.2.1.frozen j
           clear R1 hx))
      go_roundw
      case rel => exact ⟨j + 1, by omega, by go_num, by rw [← wsN_set b j (by omega)]; exact HR1.out.put rfl⟩
      case measure => simp [intOf]; omega
    · obtain rfl : j = 16 := by omega
      have HR := Lib.hid hR
      clear hR
      rw [show ((16 : Nat) : Int) = 16 from rfl]
      go_wp2_with fail
      go_loopw [5] (fun i wr => ∃ m : Nat, 16 ≤ m ∧ m ≤ 64 ∧ i = .int .i64 (m : Int) ∧ SchR w wr b (schedN (wsN b 16) (m - 16))) (fun i _ => 64 - (intOf i).toNat)
      case atStart => exact ⟨16, by omega, by omega, rfl, HR.out⟩
      case round =>
        have sw := wsN_small b 16
        have lw := wsN_len b 16 (by omega)
        obtain ⟨m, hm, hm2, rfl, hR⟩ := hrel
        by_cases hlt : m < 64
        · have hlen : (schedN (wsN b 16) (m - 16)).length = 64 := by rw [schedN_len, lw]
          have hsm := schedN_small (wsN b 16) sw (m - 16)
          have hnx : schedN (wsN b 16) (m + 1 - 16) = (schedN (wsN b 16) (m - 16)).set m (schedW (schedN (wsN b 16) (m - 16)) m) := by
            rw [show m + 1 - 16 = (m - 16) + 1 by omega, schedN, show 16 + (m - 16) = m by omega]
          obtain ⟨x1, a1, b1⟩ := word_at (schedN (wsN b 16) (m - 16)) (m - 15) (by omega)
          obtain ⟨x2, a2, b2⟩ := word_at (schedN (wsN b 16) (m - 16)) (m - 2) (by omega)
          obtain ⟨x3, a3, b3⟩ := word_at (schedN (wsN b 16) (m - 16)) (m - 16) (by omega)
          obtain ⟨x4, a4, b4⟩ := word_at (schedN (wsN b 16) (m - 16)) (m - 7) (by omega)
          obtain ⟨x5, a5, b5⟩ := word_at (schedN (wsN b 16) (m - 16)) m (by omega)
          have hW := hR.2.2.1
          have c1 := hW.cell a1
          have c2 := hW.cell a2
          have c3 := hW.cell a3
          have c4 := hW.cell a4
          have c5 := hW.cell a5
          have cf := hW.frozen m
          have l1 := hsm.at_ a1
          have l2 := hsm.at_ a2
          have l3 := hsm.at_ a3
          have l4 := hsm.at_ a4
          have m0 := s0_lt x1 l1
          have m1 := s1_lt x2 l2
          have hval : schedW (schedN (wsN b 16) (m - 16)) m = (x3 + s0 x1 + x4 + s1 x2) % 4294967296 := by unfold schedW; rw [b1, b2, b3, b4]
          rw [hval] at hnx
          have HNX := Lib.hid hnx
          have HR2 := Lib.hid hR
          have HM2 := Lib.hid hm2
          clear hnx hW hsm hlen a1 a2 a3 a4 a5 b1 b2 b3 b4 b5 hval sw lw hR HR hm2
          have g16 : (16 : Int) ≤ (m : Int) := by omega
          have g15 : (15 : Int) ≤ (m : Int) := by omega
          have g7 : (7 : Int) ≤ (m : Int) := by omega
          have g2 : (2 : Int) ≤ (m : Int) := by omega
          have u16 : (m : Int) - 16 < 64 := by omega
          have u15 : (m : Int) - 15 < 64 := by omega
          have u7 : (m : Int) - 7 < 64 := by omega
          have u2 : (m : Int) - 2 < 64 := by omega
          have n16 : (0 : Int) ≤ (m : Int) - 16 := by omega
          have n15 : (0 : Int) ≤ (m : Int) - 15 := by omega
          have n7 : (0 : Int) ≤ (m : Int) - 7 := by omega
          have n2 : (0 : Int) ≤ (m : Int) - 2 := by omega
          have um : (m : Int) < 64 := by omega
          have t16 : ((m : Int) - 16).toNat = m - 16 := by omega
          have t15 : ((m : Int) - 15).toNat = m - 15 := by omega
          have t7 : ((m : Int) - 7).toNat = m - 7 := by omega
          have t2 : ((m : Int) - 2).toNat = m - 2 := by omega
          have q16 : IntKind.i64.wrap ((m : Int) - 16) = (m : Int) - 16 := IntWalk.i64_in _ (by omega)
          have q15 : IntKind.i64.wrap ((m : Int) - 15) = (m : Int) - 15 := IntWalk.i64_in _ (by omega)
          have q7 : IntKind.i64.wrap ((m : Int) - 7) = (m : Int) - 7 := IntWalk.i64_in _ (by omega)
          have q2 : IntKind.i64.wrap ((m : Int) - 2) = (m : Int) - 2 := IntWalk.i64_in _ (by omega)
          go_wp2_with fail
          go_region_held3 (fun w' => w'.cell? ⟨w.heap.size + 1 + 1, m - 15, none⟩ = some (.int .u32 (x1 : Int)) ∧ w'.cell? ⟨w.heap.size + 1 + 1, m - 2, none⟩ = some (.int .u32 (x2 : Int)) ∧ w'.cell? ⟨w.heap.size + 1 + 1, m - 16, none⟩ = some (.int .u32 (x3 : Int)) ∧ w'.cell? ⟨w.heap.size + 1 + 1, m - 7, none⟩ = some (.int .u32 (x4 : Int)))
            (first | go_keep | exact ⟨cell_far c1 (by omega), cell_far c2 (by omega), cell_far c3 (by omega), cell_far c4 (by omega)⟩)
            (first
              | (go_at_call 129; refine (lower0_any x1 _ l1).mono ?_; rintro e w1 ⟨rfl, k1, rfl⟩)
              | (go_at_call 130; refine (lower1_any x2 _ l2).mono ?_; rintro e w1 ⟨rfl, k2, rfl⟩))
          go_wp2_with fail
          go_roundw
          case rel =>
            refine ⟨m + 1, by omega, by omega, by go_num, ?_⟩
            rw [HNX.out]
            exact (HR2.out.drewN _).put (by (try simp only [IntKind.wrap_u32]); omega)
          case measure => simp [intOf]; omega
        · obtain rfl : m = 64 := by omega
          have HR2 := Lib.hid hR
          have hsz : (wordsW (schedN (wsN b 16) (64 - 16))).size = 64 := by rw [wordsW_size, schedN_len, lw]
          have iv : (Try.prog.info? 165).map (·.size) = some (wordsW (schedN (wsN b 16) (64 - 16))).size := by rw [hsz]; exact infoWords
          have hz : (wordsW (List.replicate 64 0)).size = (wordsW (schedN (wsN b 16) (64 - 16))).size := by rw [hsz]; rfl
          have H1 := Lib.hid hR.2.1
          have H2 := Lib.hid hR.2.2.1
          have HB2 := Lib.hid hR.2.2.2
          have IV := Lib.hid iv
          have HZ := Lib.hid hz
          clear hsz iv hz hR HR sw lw
          go_wp2_with (first
            | (refine wpList_load_row rfl 165 (.tmp 3) rfl (w.heap.size + 1 + 1) rfl 165 (wordsW (schedN (wsN b 16) (64 - 16))) (0, 0) _ H2.out Try.underlying165 rfl IV.out ?_)
            | (refine wpList_store_row rfl 165 (.tmp 2) (.tmp 43) rfl (w.heap.size + 1) (wordsW (schedN (wsN b 16) (64 - 16))) rfl rfl 165 _ H1.out IV.out HZ.out (wordsW_one _) ?_))
          refine bodyPost_ret (v := .agg (wordsW (schedN (wsN b 16) (64 - 16)))) ?_ (by rfl) ?_
          · exact results_cell_row (p := 2) (ty := 165) rfl _ _ (w.heap.size + 1) 165 (wordsW (schedN (wsN b 16) (64 - 16))) _ _ rfl (setRow_heap _ _ _ _ 165 _ H1.out) Try.underlying165 rfl IV.out
          · exact ⟨rfl, below_setRow HB2.out (by omega) _⟩
end Go.Proofs.Ytadagbkfemcgfaa
