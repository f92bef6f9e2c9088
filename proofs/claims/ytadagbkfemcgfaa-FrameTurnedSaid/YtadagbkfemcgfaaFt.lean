/-
  Own work. The document's answer to frame: Take.
-/
import Derived.Test.YtadagbkfemcgfaaFu10
namespace Go.Proofs.Ytadagbkfemcgfaa
open Go.RowKit
set_option linter.unusedVariables false
set_option linter.unusedSimpArgs false

set_option maxRecDepth 100000 in
set_option maxHeartbeats 4000000 in
theorem rftake_any (w : World) (A : Option Addr) (n c : Nat) (l : List UInt8) (h : HasB w w.heap.size A n l) (hc : n ≤ c) (hcm : c ≤ maxLen) (hn : n ≤ 1073741824) :
    Calls Try.prog 17 #[.slice A n c] w (RetTk w (ftake l)) := by
  have hl := h.len
  have IV := Lib.hid (id_iv (zer 32) rfl)
  unfold maxLen at hcm
  by_cases h46 : n < 46
  · rw [(ftake_of l).1 (by omega)]
    clear h hl
    go_enter Try.func17, Try.ntmps17
    go_wp2_with (first
      | (refine wpList_buildG rfl 23 rfl (cellsB (zer 32)).toArray built_id ?_)
      | (refine wpList_store_row rfl 23 (.tmp 2) (.tmp 15) rfl w.heap.size (cellsB (zer 32)).toArray rfl rfl 23 _ (Bw.new w (zer 32) 23) IV.out rfl (cellsB_ones _) ?_))
    refine bodyPost_ret (v := .tuple #[.agg (cellsB (zer 32)).toArray, .slice none 0 0, .int .i64 0, .int .i64 3]) ?_ (by rfl) ?_
    · exact results_cell_row4 (p := 2) (u := 3) (v := 4) (y := 5) (ty := 23) rfl _ _ w.heap.size 23 (cellsB (zer 32)).toArray _ _ rfl (setRow_heap _ _ _ _ 23 _ (Bw.new w (zer 32) 23)) Try.underlying23 rfl IV.out _ _ _ rfl rfl rfl
    · exact ⟨none, 0, 0, rfl, OwnB.nil _ _, box_below w (zer 32)⟩
  · obtain ⟨g, o, rfl, hg, hcell⟩ := h.2 (by omega)
    obtain ⟨b0, hb0⟩ := at_some l 0 (by omega)
    obtain ⟨b1, hb1⟩ := at_some l 1 (by omega)
    have hz : Below w.heap.size w (w.alloc (.cells (cellsB (zer 32)).toArray 23)) := (Below.refl _ w).alloc (Nat.le_refl _) _
    have hc0 : w.cell? ⟨g, o, none⟩ = some (.int .u8 (b0.toNat : Int)) := hcell 0 b0 hb0
    have hc1 : w.cell? ⟨g, o + 1, none⟩ = some (.int .u8 (b1.toNat : Int)) := hcell 1 b1 hb1
    have hx0 := byte_ne (b := b0) (k := 199) (by omega)
    have hx1 := byte_ne (b := b1) (k := 70) (by omega)
    clear hcell
    by_cases h199 : b0.toNat = 199
    · have e0 := hx0.2 h199
      subst e0
      by_cases h70 : b1.toNat = 70
      · have e1 := hx1.2 h70
        subst e1
        have C1 : Hid (∀ W, Below w.heap.size w W → Calls Try.prog 38 #[.slice (some ⟨g, o, none⟩) n c, .int .i64 2, .int .i64 4] (W.alloc (.cells (cellsB (zer 32)).toArray 23)) fun e w' => e = .returned (.tuple #[.int .u64 (fN l : Nat), .int .i64 0]) ∧ (W.alloc (.cells (cellsB (zer 32)).toArray 23)) = w') := Lib.hid (fun W hW => by
          have := rat_any (some ⟨g, o, none⟩) l n c 2 4 (W.alloc (.cells (cellsB (zer 32)).toArray 23)) (h.on (hW.alloc hW.size _)) hn (by omega) (by omega)
          rwa [(at_fN l (by omega)).1, (at_fN l (by omega)).2] at this)
        clear hx0 hx1 h199 h70
        have q0 : l[0]? = some 199 := hb0
        have q1 : l[1]? = some 70 := hb1
        clear hb0 hb1
        have hb0 := q0
        have hb1 := q1
        clear q0 q1
        have hc0 : w.cell? ⟨g, o, none⟩ = some (.int .u8 199) := hc0
        have hc1 : w.cell? ⟨g, o + 1, none⟩ = some (.int .u8 70) := hc1
        by_cases h4 : 4200 < fN l
        · rw [((ftake_of l).2.2 (by omega) hb0 hb1).1 h4]
          have hfl := fN_lt l
          obtain ⟨N, hN⟩ : ∃ N, fN l = N := ⟨_, rfl⟩
          rw [hN] at h4 hfl C1
          clear h hl hb0 hb1 hN
          go_enter Try.func17, Try.ntmps17
          go_wp2_with (first
            | (go_at_call 38; refine (C1.out _ (Below.refl _ w)).mono ?_; rintro e w1 ⟨rfl, rfl⟩)
            | (refine wpList_buildG rfl 23 rfl (cellsB (zer 32)).toArray built_id ?_)
            | (refine wpList_store_row rfl 23 (.tmp 2) (.tmp 34) rfl w.heap.size (cellsB (zer 32)).toArray rfl rfl 23 _ (Bw.new w (zer 32) 23) IV.out rfl (cellsB_ones _) ?_))
          refine bodyPost_ret (v := .tuple #[.agg (cellsB (zer 32)).toArray, .slice none 0 0, .int .i64 0, .int .i64 2]) ?_ (by rfl) ?_
          · exact results_cell_row4 (p := 2) (u := 3) (v := 4) (y := 5) (ty := 23) rfl _ _ w.heap.size 23 (cellsB (zer 32)).toArray _ _ rfl (setRow_heap _ _ _ _ 23 _ (Bw.new w (zer 32) 23)) Try.underlying23 rfl IV.out _ _ _ rfl rfl rfl
          · exact ⟨none, 0, 0, rfl, OwnB.nil _ _, box_below w (zer 32)⟩
        · by_cases h5 : n < 46 + fN l
          · rw [(((ftake_of l).2.2 (by omega) hb0 hb1).2 (by omega)).1 (by omega)]
            obtain ⟨N, hN⟩ : ∃ N, fN l = N := ⟨_, rfl⟩
            rw [hN] at h4 h5 C1
            clear h hl hb0 hb1 hN
            go_enter Try.func17, Try.ntmps17
            go_wp2_with (first
              | (go_at_call 38; refine (C1.out _ (Below.refl _ w)).mono ?_; rintro e w1 ⟨rfl, rfl⟩)
              | (refine wpList_buildG rfl 23 rfl (cellsB (zer 32)).toArray built_id ?_)
              | (refine wpList_store_row rfl 23 (.tmp 2) (.tmp 41) rfl w.heap.size (cellsB (zer 32)).toArray rfl rfl 23 _ (Bw.new w (zer 32) 23) IV.out rfl (cellsB_ones _) ?_))
            refine bodyPost_ret (v := .tuple #[.agg (cellsB (zer 32)).toArray, .slice none 0 0, .int .i64 0, .int .i64 3]) ?_ (by rfl) ?_
            · exact results_cell_row4 (p := 2) (u := 3) (v := 4) (y := 5) (ty := 23) rfl _ _ w.heap.size 23 (cellsB (zer 32)).toArray _ _ rfl (setRow_heap _ _ _ _ 23 _ (Bw.new w (zer 32) 23)) Try.underlying23 rfl IV.out _ _ _ rfl rfl rfl
            · exact ⟨none, 0, 0, rfl, OwnB.nil _ _, box_below w (zer 32)⟩
          by_cases hs : frS (fK l) (fB l) = fT l
          · by_cases hcc : c = 46
            · exact rftake_fine0 w g o n c l h hc hcm hn h46 hb0 hb1 h4 h5 hs hcc
            · exact rftake_fine w g o n c l h hc hcm hn h46 hb0 hb1 h4 h5 hs hcc
          · by_cases hcc : c = 46
            · exact rftake_rot0 w g o n c l h hc hcm hn h46 hb0 hb1 h4 h5 hs hcc
            · exact rftake_rot w g o n c l h hc hcm hn h46 hb0 hb1 h4 h5 hs hcc
      · rw [(ftake_of l).2.1 (by omega) (fun q => h70 (hx1.1 (by have := q.2; rw [hb1] at this; exact Option.some.inj this)))]
        obtain ⟨x1, hx⟩ : ∃ x1, b1.toNat = x1 := ⟨_, rfl⟩
        rw [hx] at hc1 h70
        have hc0 : w.cell? ⟨g, o, none⟩ = some (.int .u8 199) := hc0
        have h70' : ¬ (x1 : Int) = 70 := by omega
        clear h hl hb0 hb1 hx0 hx1 hx h199
        go_enter Try.func17, Try.ntmps17
        go_wp2_with (first
          | (refine wpList_buildG rfl 23 rfl (cellsB (zer 32)).toArray built_id ?_)
          | (refine wpList_store_row rfl 23 (.tmp 2) (.tmp 26) rfl w.heap.size (cellsB (zer 32)).toArray rfl rfl 23 _ (Bw.new w (zer 32) 23) IV.out rfl (cellsB_ones _) ?_))
        refine bodyPost_ret (v := .tuple #[.agg (cellsB (zer 32)).toArray, .slice none 0 0, .int .i64 0, .int .i64 4]) ?_ (by rfl) ?_
        · exact results_cell_row4 (p := 2) (u := 3) (v := 4) (y := 5) (ty := 23) rfl _ _ w.heap.size 23 (cellsB (zer 32)).toArray _ _ rfl (setRow_heap _ _ _ _ 23 _ (Bw.new w (zer 32) 23)) Try.underlying23 rfl IV.out _ _ _ rfl rfl rfl
        · exact ⟨none, 0, 0, rfl, OwnB.nil _ _, box_below w (zer 32)⟩
    · rw [(ftake_of l).2.1 (by omega) (fun q => h199 (hx0.1 (by have := q.1; rw [hb0] at this; exact Option.some.inj this)))]
      obtain ⟨x0, hx⟩ : ∃ x0, b0.toNat = x0 := ⟨_, rfl⟩
      rw [hx] at hc0 h199
      have h199' : ¬ (x0 : Int) = 199 := by omega
      clear h hl hb0 hb1 hx0 hx1 hx
      go_enter Try.func17, Try.ntmps17
      go_wp2_with (first
        | (refine wpList_buildG rfl 23 rfl (cellsB (zer 32)).toArray built_id ?_)
        | (refine wpList_store_row rfl 23 (.tmp 2) (.tmp 26) rfl w.heap.size (cellsB (zer 32)).toArray rfl rfl 23 _ (Bw.new w (zer 32) 23) IV.out rfl (cellsB_ones _) ?_))
      refine bodyPost_ret (v := .tuple #[.agg (cellsB (zer 32)).toArray, .slice none 0 0, .int .i64 0, .int .i64 4]) ?_ (by rfl) ?_
      · exact results_cell_row4 (p := 2) (u := 3) (v := 4) (y := 5) (ty := 23) rfl _ _ w.heap.size 23 (cellsB (zer 32)).toArray _ _ rfl (setRow_heap _ _ _ _ 23 _ (Bw.new w (zer 32) 23)) Try.underlying23 rfl IV.out _ _ _ rfl rfl rfl
      · exact ⟨none, 0, 0, rfl, OwnB.nil _ _, box_below w (zer 32)⟩
end Go.Proofs.Ytadagbkfemcgfaa
