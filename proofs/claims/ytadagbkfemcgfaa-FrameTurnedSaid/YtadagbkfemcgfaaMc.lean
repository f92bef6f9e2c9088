/-
  Own work. The contract of sha's mix: one block of FIPS 180-4.
-/
import Derived.Test.YtadagbkfemcgfaaIx
namespace Go.Proofs.Ytadagbkfemcgfaa
open Go.RowKit
set_option linter.unusedVariables false

/-- The state behind one block of 64 bytes. -/
def comp (s : List Nat) (b : List UInt8) : List Nat := blockS s (wsN b 16) keysL

/-- What mix holds while it goes: the state and the block that came, the result's place, the constants. -/
def MixR (w wr : World) (s : List Nat) (b : List UInt8) (g : Nat) : Prop :=
  Ww wr w.heap.size 151 s ∧ wr.heap[w.heap.size + 1]? = some (.cells (cellsB b).toArray 154 (0, 0)) ∧ Ww wr (w.heap.size + 1 + 1) 151 (List.replicate 8 0) ∧ Ww wr g 165 keysL ∧ Below w.heap.size w wr
theorem MixR.below {w wr wr' : World} {s : List Nat} {b : List UInt8} {g : Nat} (h : MixR w wr s b g) (hb : Below wr.heap.size wr wr') : MixR w wr' s b g := by
  obtain ⟨h0, h1, h2, h3, h4⟩ := h
  exact ⟨h0.below hb h0.lt, (hb.block _ (Array.getElem?_eq_some_iff.1 h1).1).trans h1, h2.below hb h2.lt, h3.below hb h3.lt, h4.trans (hb.mono h4.size)⟩
theorem MixR.drewN {w wr : World} {s : List Nat} {b : List UInt8} {g : Nat} (h : MixR w wr s b g) (n : Nat) : MixR w (wr.drewN n) s b g := ⟨h.1, h.2.1, h.2.2.1, h.2.2.2.1, below_drewN h.2.2.2.2 n⟩
theorem MixR.new (w w1 : World) (s : List Nat) (b : List UInt8) (z : Array Value)
    (hb : Below (((w.alloc (.cells (wordsW s) 151)).alloc (.cells (cellsB b).toArray 154)).alloc (.cells (wordsW (List.replicate 8 0)) 151)).heap.size (((w.alloc (.cells (wordsW s) 151)).alloc (.cells (cellsB b).toArray 154)).alloc (.cells (wordsW (List.replicate 8 0)) 151)) w1) :
    MixR w ((w1.alloc (.cells z 165)).setRow w1.heap.size (wordsW keysL)) s b w1.heap.size := by
  have hs := hb.size
  simp at hs
  have q0 : Ww (((w.alloc (.cells (wordsW s) 151)).alloc (.cells (cellsB b).toArray 154)).alloc (.cells (wordsW (List.replicate 8 0)) 151)) w.heap.size 151 s := ((Ww.new _ _ _).alloc _).alloc _
  have q1 : (((w.alloc (.cells (wordsW s) 151)).alloc (.cells (cellsB b).toArray 154)).alloc (.cells (wordsW (List.replicate 8 0)) 151)).heap[w.heap.size + 1]? = some (.cells (cellsB b).toArray 154 (0, 0)) := by
    refine (Below.heap_alloc _ _ _ (by simp)).trans ?_
    have := heap_alloc_new (w.alloc (.cells (wordsW s) 151)) (.cells (cellsB b).toArray 154)
    simpa using this
  have q2 : Ww (((w.alloc (.cells (wordsW s) 151)).alloc (.cells (cellsB b).toArray 154)).alloc (.cells (wordsW (List.replicate 8 0)) 151)) (w.heap.size + 1 + 1) 151 (List.replicate 8 0) := by
    have := Ww.new ((w.alloc (.cells (wordsW s) 151)).alloc (.cells (cellsB b).toArray 154)) (List.replicate 8 0) 151
    simpa using this
  have q3 : Below w.heap.size w (((w.alloc (.cells (wordsW s) 151)).alloc (.cells (cellsB b).toArray 154)).alloc (.cells (wordsW (List.replicate 8 0)) 151)) := (((Below.refl _ _).alloc (Nat.le_refl _) _).alloc (by simp) _).alloc (by simp; omega) _
  refine ⟨((q0.below hb q0.lt).alloc _).rowFar (by omega) _, (setRow_other _ _ _ _ (by omega)).trans ((Below.heap_alloc _ _ _ (by omega)).trans ((hb.block _ (by simp)).trans q1)), ((q2.below hb q2.lt).alloc _).rowFar (by omega) _, setRow_heap _ _ _ _ _ _ (heap_alloc_new w1 _), ?_⟩
  exact below_setRow ((q3.trans (hb.mono (by simp; omega))).alloc (by omega) _) (by omega) _

/-- The schedule behind a name: an equation with a recursion at a numeral stops the walk. -/
structure SchedOf (b : List UInt8) (W : List Nat) : Prop where
  out : schedN (wsN b 16) 48 = W

set_option maxRecDepth 100000 in
set_option maxHeartbeats 1000000 in
theorem mix_any (s : List Nat) (b : List UInt8) (w : World) (hs : s.length = 8) (ss : Small s) (hb : b.length = 64) :
    Calls Try.prog 104 #[.agg (wordsW s), .agg (cellsB b).toArray] w fun e w' => e = .returned (.agg (wordsW (comp s b))) ∧ Below w.heap.size w w' := by
  have ib : (Try.prog.info? 154).map (·.size) = some (cellsB b).toArray.size := by rw [cellsB_size, hb]; exact infoBlock
  have IB := Lib.hid ib
  have HB := Lib.hid hb
  have HS := Lib.hid hs
  clear ib hb hs
  go_enter Try.func104, Try.ntmps104
  go_wp2_with (first
    | (go_at_call 111; refine (constants_any _).mono ?_; rintro e w1 ⟨rfl, hb1⟩
       have hn := heap_alloc_new w1 (.cells (wordsW (List.replicate 64 0)) 165)
       have HN := Lib.hid hn
       have HB1 := Lib.hid hb1
       clear hn hb1)
    | (refine wpList_store_row rfl 165 (.tmp 5) (.tmp 18) rfl w1.heap.size (wordsW keysL) rfl rfl 165 _ HN.out infoWords (by rfl) (wordsW_one _) ?_))
  generalize hwm : World.setRow (w1.alloc _) _ _ = wm
  have R0 : MixR w wm s b w1.heap.size := by rw [← hwm]; exact MixR.new w w1 s b _ HB1.out
  generalize w1.heap.size = g at *
  clear hwm HN HB1
  have hc0 := (roundN_len s keysL (schedN (wsN b 16) 48) HS.out 0)
  obtain ⟨y0, y1, y2, y3, y4, y5, y6, y7, hs⟩ := eight HS.out
  have hs2 := hs
  have r0 := R0.1
  rw [hs] at r0
  have c0 : wm.cell? ⟨w.heap.size, 0, none⟩ = some (.int .u32 (y0 : Int)) := r0.cell rfl
  have c1 : wm.cell? ⟨w.heap.size, 1, none⟩ = some (.int .u32 (y1 : Int)) := r0.cell rfl
  have c2 : wm.cell? ⟨w.heap.size, 2, none⟩ = some (.int .u32 (y2 : Int)) := r0.cell rfl
  have c3 : wm.cell? ⟨w.heap.size, 3, none⟩ = some (.int .u32 (y3 : Int)) := r0.cell rfl
  have c4 : wm.cell? ⟨w.heap.size, 4, none⟩ = some (.int .u32 (y4 : Int)) := r0.cell rfl
  have c5 : wm.cell? ⟨w.heap.size, 5, none⟩ = some (.int .u32 (y5 : Int)) := r0.cell rfl
  have c6 : wm.cell? ⟨w.heap.size, 6, none⟩ = some (.int .u32 (y6 : Int)) := r0.cell rfl
  have c7 : wm.cell? ⟨w.heap.size, 7, none⟩ = some (.int .u32 (y7 : Int)) := r0.cell rfl
  have RH := Lib.hid R0
  have HS2 := Lib.hid hs
  have hrow := R0.2.1
  have HROW := Lib.hid hrow
  clear hs hs2 r0 R0 hrow hc0
  go_wp2_with fail
  go_quiet (fail)
  go_wp2_with (first
    | (refine wpList_load_row rfl 154 (.tmp 3) rfl (w.heap.size + 1) rfl 154 (cellsB b).toArray (0, 0) _ HROW.out Try.underlying154 rfl IB.out ?_)
    | (go_at_call 112; refine (sched_any b _ HB.out).mono ?_; rintro e w2 ⟨rfl, hb2⟩
       have R2 := (RH.out.drewN nq).below hb2
       have RH2 := Lib.hid R2
       clear R2 hb2))
  generalize hW : schedN (wsN b 16) 48 = W
  have lW : W.length = 64 := by rw [← hW, schedN_len, wsN_len b 16 (by omega)]
  have sW : Small W := by rw [← hW]; exact schedN_small _ (wsN_small b 16) 48
  have HW : SchedOf b W := ⟨hW⟩
  have LW := Lib.hid lW
  clear hW lW c0 c1 c2 c3 c4 c5 c6 c7
  go_loopw [6, 7, 8, 9, 10, 11, 12, 13, 37] (fun p0 p1 p2 p3 p4 p5 p6 p7 i wr => ∃ (j v0 v1 v2 v3 v4 v5 v6 v7 : Nat), j ≤ 64 ∧ i = .int .i64 (j : Int) ∧ roundN s keysL W j = [v0, v1, v2, v3, v4, v5, v6, v7] ∧ MixR w wr s b g ∧
      p0 = .int .u32 (v0 : Int) ∧ p1 = .int .u32 (v1 : Int) ∧ p2 = .int .u32 (v2 : Int) ∧ p3 = .int .u32 (v3 : Int) ∧ p4 = .int .u32 (v4 : Int) ∧ p5 = .int .u32 (v5 : Int) ∧ p6 = .int .u32 (v6 : Int) ∧ p7 = .int .u32 (v7 : Int))
    (fun _ _ _ _ _ _ _ _ i _ => 64 - (intOf i).toNat)
  case atStart => exact ⟨0, y0, y1, y2, y3, y4, y5, y6, y7, by omega, rfl, HS2.out, RH2.out, rfl, rfl, rfl, rfl, rfl, rfl, rfl, rfl⟩
  case round =>
    obtain ⟨j, v0, v1, v2, v3, v4, v5, v6, v7, hj, rfl, hv, hR, rfl, rfl, rfl, rfl, rfl, rfl, rfl, rfl⟩ := hrel
    by_cases hlt : j < 64
    · have sv := roundN_small s keysL W HS.out ss j
      rw [hv] at sv
      have hnx : roundN s keysL W (j + 1) = roundS [v0, v1, v2, v3, v4, v5, v6, v7] (keysL.getD j 0) (W.getD j 0) := by rw [roundN, hv]
      obtain ⟨kj, ak, bk⟩ := word_at keysL j (show j < 64 from hlt)
      obtain ⟨wj, aw, bw⟩ := word_at W j (by rw [LW.out]; exact hlt)
      rw [bk, bw] at hnx
      have lw := sW.at_ aw
      have ck := hR.2.2.2.1.cell ak
      have cw : (wordsW W)[j]? = some (.int .u32 (wj : Int)) := by simp [wordsW, aw]
      have l0 : v0 < 4294967296 := sv _ (by simp)
      have l1 : v1 < 4294967296 := sv _ (by simp)
      have l2 : v2 < 4294967296 := sv _ (by simp)
      have l3 : v3 < 4294967296 := sv _ (by simp)
      have l4 : v4 < 4294967296 := sv _ (by simp)
      have l5 : v5 < 4294967296 := sv _ (by simp)
      have l6 : v6 < 4294967296 := sv _ (by simp)
      have l7 : v7 < 4294967296 := sv _ (by simp)
      have m1 := S1_lt v4 l4
      have m2 := S0_lt v0 l0
      have m3 := ch_lt v4 v5 v6 l4
      have m4 := maj_lt v0 v1 v2 l0 l1
      have szW : (wordsW W).size = 64 := by rw [wordsW_size, LW.out]
      have HNX := Lib.hid hnx
      have HR := Lib.hid hR
      clear hnx hR sv hv ak bk aw bw
      go_wp2_with (refine wpList_index_row rfl 165 92 (.tmp 36) (.tmp 37) rfl (wordsW W) .i64 64 j _ rfl rfl Try.underlying165 hlt infoU32 plainU32 cw ?_)
      go_quiet (first
        | (go_at_call 113; exact Calls.quiet_of (upper1_any v4 _ l4))
        | (go_at_call 114; exact Calls.quiet_of_same ((choose_any v4 v5 v6 _ l4 l5 l6).mono fun _ _ hh => ⟨hh.1, hh.2.symm⟩)))
      go_wp2_with (first
        | (go_at_call 115; refine (upper0_any v0 _ l0).mono ?_; rintro e w3 ⟨rfl, k1, rfl⟩)
        | (go_at_call 116; refine (majority_any v0 v1 v2 _ l0 l1 l2).mono ?_; rintro e w4 ⟨rfl, rfl⟩))
      go_roundw
      case rel =>
        refine ⟨j + 1, (tS v4 v5 v6 v7 kj wj + S0 v0 + majS v0 v1 v2) % 4294967296, v0, v1, v2, (v3 + tS v4 v5 v6 v7 kj wj) % 4294967296, v4, v5, v6, by omega, by go_num, HNX.out, HR.out.drewN _, ?_, rfl, rfl, rfl, ?_, rfl, rfl, rfl⟩
        · exact congrArg (Value.int .u32) (by unfold tS; (try simp only [IntKind.wrap_u32]); omega)
        · exact congrArg (Value.int .u32) (by unfold tS; (try simp only [IntKind.wrap_u32]); omega)
      case measure => simp [intOf]; omega
    · obtain rfl : j = 64 := by omega
      have hfin : comp s b = [(y0 + v0) % 4294967296, (y1 + v1) % 4294967296, (y2 + v2) % 4294967296, (y3 + v3) % 4294967296, (y4 + v4) % 4294967296, (y5 + v5) % 4294967296, (y6 + v6) % 4294967296, (y7 + v7) % 4294967296] := by
        unfold comp blockS; rw [HW.out, hv, HS2.out]; rfl
      have r0 := hR.1
      rw [HS2.out] at r0
      have c0 : wr.cell? ⟨w.heap.size, 0, none⟩ = some (.int .u32 (y0 : Int)) := r0.cell rfl
      have c1 : wr.cell? ⟨w.heap.size, 1, none⟩ = some (.int .u32 (y1 : Int)) := r0.cell rfl
      have c2 : wr.cell? ⟨w.heap.size, 2, none⟩ = some (.int .u32 (y2 : Int)) := r0.cell rfl
      have c3 : wr.cell? ⟨w.heap.size, 3, none⟩ = some (.int .u32 (y3 : Int)) := r0.cell rfl
      have c4 : wr.cell? ⟨w.heap.size, 4, none⟩ = some (.int .u32 (y4 : Int)) := r0.cell rfl
      have c5 : wr.cell? ⟨w.heap.size, 5, none⟩ = some (.int .u32 (y5 : Int)) := r0.cell rfl
      have c6 : wr.cell? ⟨w.heap.size, 6, none⟩ = some (.int .u32 (y6 : Int)) := r0.cell rfl
      have c7 : wr.cell? ⟨w.heap.size, 7, none⟩ = some (.int .u32 (y7 : Int)) := r0.cell rfl
      have HF := Lib.hid hfin
      have HV := Lib.hid hv
      have HR := Lib.hid hR
      have HR2 := Lib.hid hR.2.2.1
      clear hfin hv hR r0
      have hZ : (#[Value.int .u32 (((y0 : Int) + (v0 : Int)) % 4294967296), Value.int .u32 (((y1 : Int) + (v1 : Int)) % 4294967296), Value.int .u32 (((y2 : Int) + (v2 : Int)) % 4294967296), Value.int .u32 (((y3 : Int) + (v3 : Int)) % 4294967296), Value.int .u32 (((y4 : Int) + (v4 : Int)) % 4294967296), Value.int .u32 (((y5 : Int) + (v5 : Int)) % 4294967296), Value.int .u32 (((y6 : Int) + (v6 : Int)) % 4294967296), Value.int .u32 (((y7 : Int) + (v7 : Int)) % 4294967296)] : Array Value) = wordsW (comp s b) := by rw [HF.out]; simp [wordsW]
      have HZ := Lib.hid hZ
      clear hZ
      have hl : (comp s b).length = 8 := by rw [HF.out]; rfl
      have iv : (Try.prog.info? 151).map (·.size) = some (wordsW (comp s b)).size := by rw [wordsW_size, hl]; exact infoState
      have hz : (wordsW (List.replicate 8 0)).size = (wordsW (comp s b)).size := by rw [wordsW_size (comp s b), hl]; rfl
      have IV := Lib.hid iv
      have HZ2 := Lib.hid hz
      clear hl iv hz
      go_wp2_with (refine wpList_store_row rfl 151 (.tmp 4) (.tmp 108) rfl (w.heap.size + 1 + 1) (wordsW (comp s b)) rfl (congrArg Value.agg HZ.out) 151 _ HR2.out IV.out HZ2.out (wordsW_one _) ?_)
      refine bodyPost_ret (v := .agg (wordsW (comp s b))) ?_ (by rfl) ?_
      · exact results_cell_row (p := 4) (ty := 151) rfl _ _ (w.heap.size + 1 + 1) 151 (wordsW (comp s b)) _ _ rfl (setRow_heap _ _ _ _ 151 _ HR2.out) Try.underlying151 rfl IV.out
      · exact ⟨rfl, below_setRow HR.out.2.2.2.2 (by omega) _⟩

theorem comp_len (s : List Nat) (b : List UInt8) (hs : s.length = 8) : (comp s b).length = 8 := by unfold comp blockS; rw [addW_len, hs]
theorem addW_small (h v : List Nat) (sh : Small h) : ∀ j, Small (addW h v j)
  | 0 => sh
  | j + 1 => (addW_small h v sh j).set_ (Nat.mod_lt _ (by omega))
theorem comp_small (s : List Nat) (b : List UInt8) (ss : Small s) : Small (comp s b) := addW_small _ _ ss 8
end Go.Proofs.Ytadagbkfemcgfaa
