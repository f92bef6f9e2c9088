/-
  Own work. The laws FrameReads and FrameWrites walked, over frames by their contracts.
-/
import Derived.Test.YtadagbkfemcgfaaTkk
import Derived.Test.YtadagbkfemcgfaaFt
import Derived.Test.YtadagbkfemcgfaaG1
import Derived.Test.YtadagbkfemcgfaaLaw0
namespace Go.Proofs.Ytadagbkfemcgfaa
open Go.RowKit
set_option linter.unusedVariables false
set_option linter.unusedSimpArgs false

set_option maxRecDepth 100000 in
set_option maxHeartbeats 2000000 in
theorem freads_law (K : FK) (A : Option Addr) (n c : Nat) (l : List UInt8) (w : World) (h : HasB w w.heap.size A n l) (hc : n ≤ c) (hcm : c ≤ maxLen) : Calls Try.prog 4 #[.slice A n c] w (RetTrue w) := by
  have HCM := Lib.hid hcm
  unfold maxLen at hcm
  by_cases hbig : 8192 < n
  · clear h
    go_enter Try.func4, Try.ntmps4
    go_wp2_with (go_at_call 8; refine (begun10_any K _).mono ?_; rintro e w1 ⟨rfl, b1⟩)
    go_ret
    exact ⟨rfl, b1⟩
  · have hil := (ftake_len l).1
    have hvl := (ftake_len l).2.1
    have c1 := fun W A' c' (q1 : HasB W W.heap.size A' n l) (q2 : n ≤ c') (q3 : c' ≤ maxLen) => K.take_any W A' n c' l q1 q2 q3 (by omega)
    have c2 := fun W (q1 : HasB W W.heap.size A n l) => rftake_any W A n c l q1 hc HCM.out (by omega)
    unfold RetTk at c1 c2
    generalize (ftake l).key = I at c1 c2 hil
    generalize (ftake l).b = V at c1 c2 hvl
    generalize (ftake l).n = N at c1 c2
    generalize (ftake l).e = E at c1 c2
    have C1 := Lib.hid c1
    have C2 := Lib.hid c2
    have HL := Lib.hid h.len
    have HS := Lib.hid h
    have HIL := Lib.hid hil
    have HVL := Lib.hid hvl
    have IV := Lib.hid (id_iv I hil)
    have IZ := Lib.hid (id_hz I hil)
    have T3 : n + 3 ≤ maxLen := by unfold maxLen; omega
    have HT3 := Lib.hid T3
    clear h c1 c2 hil hvl T3
    go_enter Try.func4, Try.ntmps4
    go_wp2_with (first
      | (go_at_call 8; refine (begun10_any K _).mono ?_; rintro e w1 ⟨rfl, b1⟩
         have B1 := Lib.hid b1
         clear b1)
      | (go_at_call 9; refine (twin_any A l n c _ (HS.out.on B1.out) (by omega)).mono ?_; rintro e w2 ⟨A2, rfl, ht2, b2⟩
         have B2 := Lib.hid (B1.out.trans (b2.mono B1.out.size))
         have T2 := Lib.hid ht2
         clear ht2 b2))
    go_loopw [4] (fun x wr => ∃ j : Nat, j ≤ 2 ∧ x = .int .i64 (j : Int) ∧ Below w2.heap.size w2 wr) (fun x _ => 2 - (intOf x).toNat)
    case atStart => exact ⟨0, by omega, rfl, Below.refl _ _⟩
    case round =>
      obtain ⟨j, hj, rfl, hbel⟩ := hrel
      obtain ⟨wz, rfl⟩ : ∃ W, W = wr := ⟨_, rfl⟩
      by_cases hlt : j < 2
      · have HB := Lib.hid hbel
        have HW := Lib.hid (B2.out.trans (hbel.mono B2.out.size))
        have TW := Lib.hid (T2.out.below hbel)
        clear hbel
        go_wp2_with (first
          | (go_at_call 16; refine (C1.out _ _ _ (TW.out.has HL.out) (by omega) HT3.out).mono ?_; rintro e w3 ⟨A3, n3, c3, rfl, hown3, b3⟩
             have O3 := Lib.hid hown3
             have B3 := Lib.hid b3
             clear hown3 b3)
          | (refine wpList_store_row rfl 23 (.tmp 5) (.tmp 27) rfl w3.heap.size (cellsB I).toArray rfl rfl 23 _ (Bw.new w3 (zer 32) 23) IV.out IZ.out (cellsB_ones _) ?_
             have hrow := box_below w3 I
             have hbx := box_id w3 I
             generalize hW4 : World.setRow _ _ _ = W4
             rw [show (w3.alloc (.cells (cellsB (zer 32)).toArray 23)).setRow w3.heap.size (cellsB I).toArray = W4 from hW4] at hrow hbx
             have X4 := Lib.hid hbx
             clear hW4 hbx
             have O4 := Lib.hid (O3.out.below hrow)
             have B4 := Lib.hid (B3.out.trans (hrow.mono B3.out.size))
             clear hrow)
          | (go_at_call 17; refine (C2.out _ (HS.out.on (HW.out.trans (B4.out.mono HW.out.size)))).mono ?_; rintro e w5 ⟨A5, n5, c5, rfl, hown5, b5⟩
             have X5 := Lib.hid (X4.out.below b5 X4.out.lt)
             have O5 := Lib.hid (O4.out.below b5)
             have P5 := Lib.hid hown5
             have B5 := Lib.hid (B4.out.trans (b5.mono B4.out.size))
             clear hown5 b5)
          | (refine wpList_store_row rfl 23 (.tmp 9) (.tmp 34) rfl w5.heap.size (cellsB I).toArray rfl rfl 23 _ (Bw.new w5 (zer 32) 23) IV.out IZ.out (cellsB_ones _) ?_
             have hrow := box_below w5 I
             have hbx := box_id w5 I
             generalize hW6 : World.setRow _ _ _ = W6
             rw [show (w5.alloc (.cells (cellsB (zer 32)).toArray 23)).setRow w5.heap.size (cellsB I).toArray = W6 from hW6] at hrow hbx
             have Y6 := Lib.hid hbx
             clear hW6 hbx
             have X6 := Lib.hid (X5.out.below hrow X5.out.lt)
             have o6 := O5.out.below hrow
             have p6 := P5.out.below hrow
             have k1 := run_conv (P := Try.prog) Try.underlying24 Try.underlying5 Try.underlying9 _ A3 n3 c3 V o6.has
             have k2 := run_conv (P := Try.prog) Try.underlying24 Try.underlying5 Try.underlying9 _ A5 n5 c5 V p6.has
             have O6 := Lib.hid o6
             have TW6 := Lib.hid (TW.out.below (B5.out.trans (hrow.mono B5.out.size)))
             have B6 := Lib.hid (B5.out.trans (hrow.mono B5.out.size))
             clear hrow o6 p6)
          | (refine wpList_load_rowG rfl 23 (.tmp 5) rfl w3.heap.size rfl (.agg (cellsB I).toArray) (X6.out.load HIL.out) ?_)
          | (refine wpList_load_rowG rfl 23 (.tmp 9) rfl w5.heap.size rfl (.agg (cellsB I).toArray) (Y6.out.load HIL.out) ?_)
          | (refine wpList_binG rfl .neq 23 23 (.tmp 38) (.tmp 39) rfl _ _ (.bool false) rfl rfl (guard_neq_id _ _ _ _ _) (neq_id_same I HIL.out _) ?_)
          | (go_at_call 12; refine (kept_any A2 A l n c _ _ TW6.out (HS.out.on (HW.out.trans (B6.out.mono HW.out.size))) (by omega)).mono ?_; rintro e w7 ⟨rfl, rfl⟩)
          | (go_at_call 15; refine (spoil_any A3 V n3 c3 _ _ O6.out).mono ?_; rintro e w8 ⟨rfl, b8⟩
             have B8 := Lib.hid (HB.out.trans ((B6.out.trans b8).mono HB.out.size))
             clear b8))
        go_roundw
        case rel => exact ⟨j + 1, by omega, by go_num, B8.out⟩
        case measure => simp [intOf]; omega
      · obtain rfl : j = 2 := by omega
        go_wp2_with fail
        go_ret
        exact ⟨rfl, B2.out.trans (hbel.mono B2.out.size)⟩

set_option maxRecDepth 100000 in
set_option maxHeartbeats 2000000 in
theorem fwrites_law (K : FK) (q : List UInt8) (A : Option Addr) (n c : Nat) (l : List UInt8) (v : Int) (w : World) (hq : q.length = 32) (h : HasB w w.heap.size A n l) (hc : n ≤ c) (hcm : c ≤ maxLen) (hv : -9223372036854775808 ≤ v ∧ v ≤ 9223372036854775807) : Calls Try.prog 3 #[.agg (cellsB q).toArray, .slice A n c, .int .i64 v] w (RetTrue w) := by
  have HCM := Lib.hid hcm
  unfold maxLen at hcm
  have hw1 : Below w.heap.size w (w.alloc (.cells (cellsB q).toArray 23)) := (Below.refl w.heap.size w).alloc (Nat.le_refl _) _
  by_cases hbig : 8192 < n
  · have HW1 := Lib.hid hw1
    clear h hq hv hw1
    go_enter Try.func3, Try.ntmps3
    go_wp2_with (go_at_call 8; refine (begun10_any K _).mono ?_; rintro e w1 ⟨rfl, b1⟩
                 have B1 := Lib.hid (HW1.out.trans (b1.mono HW1.out.size))
                 clear b1)
    go_ret
    exact ⟨rfl, B1.out⟩
  · have c1 := fun W A' c' (q1 : HasB W W.heap.size A' n l) (q2 : n ≤ c') (q3 : c' ≤ maxLen) => K.put_any W A' n c' q l q1 q2 q3 (by omega) hq
    have c2 := fun W (q1 : HasB W W.heap.size A n l) => rfput_any W A n c q l q1 hc (by omega) hq
    have c3 := fun W => K.size_any W v hv
    have c4 := fun W => rfsize_any W v hv
    unfold RetBE at c1 c2
    generalize fputL q l = X at c1 c2
    generalize fputE l = E at c1 c2
    generalize fsz v = Z at c3 c4
    have C1 := Lib.hid c1
    have C2 := Lib.hid c2
    have C3 := Lib.hid c3
    have C4 := Lib.hid c4
    have HL := Lib.hid h.len
    have HS := Lib.hid h
    have HQ := Lib.hid hq
    have T3 : n + 3 ≤ maxLen := by unfold maxLen; omega
    have HT3 := Lib.hid T3
    have HW1 := Lib.hid hw1
    clear h c1 c2 c3 c4 hq hv T3 hw1
    go_enter Try.func3, Try.ntmps3
    go_wp2_with (first
      | (go_at_call 8; refine (begun10_any K _).mono ?_; rintro e w1 ⟨rfl, b1⟩
         have B1 := Lib.hid (HW1.out.trans (b1.mono HW1.out.size))
         have Q1 := Lib.hid ((Bw.new w q 23).below b1 (by simp))
         clear b1)
      | (go_at_call 9; refine (twin_any A l n c _ (HS.out.on B1.out) (by omega)).mono ?_; rintro e w2 ⟨A2, rfl, ht2, b2⟩
         have B2 := Lib.hid (B1.out.trans (b2.mono B1.out.size))
         have Q2 := Lib.hid (Q1.out.below b2 Q1.out.lt)
         have T2 := Lib.hid ht2
         clear ht2 b2))
    go_loopw [8] (fun x wr => ∃ j : Nat, j ≤ 2 ∧ x = .int .i64 (j : Int) ∧ Below w2.heap.size w2 wr) (fun x _ => 2 - (intOf x).toNat)
    case atStart => exact ⟨0, by omega, rfl, Below.refl _ _⟩
    case round =>
      obtain ⟨j, hj, rfl, hbel⟩ := hrel
      obtain ⟨wz, rfl⟩ : ∃ W, W = wr := ⟨_, rfl⟩
      by_cases hlt : j < 2
      · have HB := Lib.hid hbel
        have HW := Lib.hid (B2.out.trans (hbel.mono B2.out.size))
        have TW := Lib.hid (T2.out.below hbel)
        have QW := Lib.hid (Q2.out.below hbel Q2.out.lt)
        clear hbel
        go_wp2_with (first
          | (refine wpList_load_rowG rfl 23 (.tmp 3) rfl w.heap.size rfl (.agg (cellsB q).toArray) (Q3.out.load HQ.out) ?_)
          | (refine wpList_load_rowG rfl 23 (.tmp 3) rfl w.heap.size rfl (.agg (cellsB q).toArray) (QW.out.load HQ.out) ?_)
          | (go_at_call 10; refine (C1.out _ _ _ (TW.out.has HL.out) (by omega) HT3.out).mono ?_; rintro e w3 ⟨A3, n3, c3, rfl, hown3, b3⟩
             have O3 := Lib.hid hown3
             have B3 := Lib.hid b3
             have Q3 := Lib.hid (QW.out.below b3 QW.out.lt)
             clear hown3 b3)
          | (go_at_call 11; refine (C2.out _ (HS.out.on (HW.out.trans (B3.out.mono HW.out.size)))).mono ?_; rintro e w5 ⟨A5, n5, c5, rfl, hown5, b5⟩
             have o5 := O3.out.below b5
             have k1 := run_conv (P := Try.prog) Try.underlying24 Try.underlying5 Try.underlying9 _ A3 n3 c3 X o5.has
             have k2 := run_conv (P := Try.prog) Try.underlying24 Try.underlying5 Try.underlying9 _ A5 n5 c5 X hown5.has
             have O5 := Lib.hid o5
             have B5 := Lib.hid (B3.out.trans (b5.mono B3.out.size))
             have TW5 := Lib.hid (TW.out.below (B3.out.trans (b5.mono B3.out.size)))
             clear hown5 b5 o5)
          | (go_at_call 12; refine (kept_any A2 A l n c _ _ TW5.out (HS.out.on (HW.out.trans (B5.out.mono HW.out.size))) (by omega)).mono ?_; rintro e w7 ⟨rfl, rfl⟩)
          | (go_at_call 13; refine (C3.out _).mono ?_; rintro e w8 ⟨rfl, b8⟩
             have O8 := Lib.hid (O5.out.below b8)
             have B8 := Lib.hid (B5.out.trans (b8.mono B5.out.size))
             clear b8)
          | (go_at_call 14; refine (C4.out _).mono ?_; rintro e w9 ⟨rfl, b9⟩
             have O9 := Lib.hid (O8.out.below b9)
             have B9 := Lib.hid (B8.out.trans (b9.mono B8.out.size))
             clear b9)
          | (go_at_call 15; refine (spoil_any A3 X n3 c3 _ _ O9.out).mono ?_; rintro e w10 ⟨rfl, b10⟩
             have B10 := Lib.hid (HB.out.trans ((B9.out.trans b10).mono HB.out.size))
             clear b10))
        go_roundw
        case rel => exact ⟨j + 1, by omega, by go_num, B10.out⟩
        case measure => simp [intOf]; omega
      · obtain rfl : j = 2 := by omega
        go_wp2_with fail
        go_ret
        exact ⟨rfl, B2.out.trans (hbel.mono B2.out.size)⟩
end Go.Proofs.Ytadagbkfemcgfaa
