/-
  The laws NamesReads and NamesBack walked, over the contracts of names' functions.
-/
import Derived.Test.YtbnlkagiliimkaaDoorNl
import Derived.Test.YtbnlkagiliimkaaDoorLaw0
namespace Go.Proofs.YtbnlkagiliimkaaDoor
open Go.RowKit
set_option linter.unusedVariables false
set_option linter.unusedSimpArgs false

theorem unhE_cases (l : List UInt8) : unhE l = 0 ∨ unhE l = 4 := by
  unfold unhE
  split
  · exact .inl rfl
  · exact .inr rfl
theorem idL_len (l : List UInt8) : (idL l).length = 32 := by
  unfold idL
  split
  · rename_i h
    unfold idE at h
    split at h
    · split at h
      · assumption
      · cases h
    · cases h
  · simp

set_option maxRecDepth 100000 in
set_option maxHeartbeats 2000000 in
theorem reads_law (l : List UInt8) (w : World) (tabw : TabW w) (hl : l.length ≤ 9223372036854775807) : Calls Tryd.prog 4 #[.string ⟨l.toArray⟩] w (RetTrue w) := by
  obtain ⟨S, hS⟩ : ∃ S : ByteArray, S = ⟨l.toArray⟩ := ⟨_, rfl⟩
  have hsz := str_size l S hS
  obtain ⟨n, hn⟩ : ∃ n, l.length = n := ⟨_, rfl⟩
  rw [hn] at hsz hl
  by_cases hbig : 4096 < n
  · rw [← hS]
    clear hS hn
    go_enter Tryd.func4, Tryd.ntmps4
    go_wp2_with (go_at_call 8; refine (begun_any _ tabw).mono ?_; rintro e w1 ⟨rfl, b1⟩)
    go_ret
    exact ⟨rfl, b1⟩
  · have c1 := fun W => unhex_any l W (by omega)
    have c2 := fun W => runhex_any l W (by omega)
    have c3 := fun W => id_any l W (by omega)
    have c4 := fun W => rid_any l W (by omega)
    have c5 := fun W => number_any l W (by omega)
    have c6 := fun W => rnumber_any l W (by omega)
    have hil := idL_len l
    have hul : (unhR l).length ≤ 4096 := by
      unfold unhR
      split
      · have := unhL_len l
        omega
      · simp
    rw [← hS] at c1 c2 c3 c4 c5 c6 ⊢
    generalize unhR l = U at c1 c2 hul
    generalize unhE l = eu at c1 c2
    generalize idL l = I at c3 c4 hil
    generalize idE l = ei at c3 c4
    generalize numV l = v at c5 c6
    generalize numE l = ev at c5 c6
    have C1 := Lib.hid c1
    have C2 := Lib.hid c2
    have C3 := Lib.hid c3
    have C4 := Lib.hid c4
    have C5 := Lib.hid c5
    have C6 := Lib.hid c6
    have HIL := Lib.hid hil
    have HUL := Lib.hid hul
    have IV := Lib.hid (id_iv I hil)
    have IZ := Lib.hid (id_hz I hil)
    clear hS hn c1 c2 c3 c4 c5 c6 hil hul
    go_enter Tryd.func4, Tryd.ntmps4
    go_wp2_with (first
      | (go_at_call 8; refine (begun_any _ tabw).mono ?_; rintro e w1 ⟨rfl, b1⟩
         have B1 := Lib.hid b1
         clear b1))
    go_loopw [3] (fun x wr => ∃ j : Nat, j ≤ 2 ∧ x = .int .i64 (j : Int) ∧ Below w.heap.size w wr) (fun x _ => 2 - (intOf x).toNat)
    case atStart => exact ⟨0, by omega, rfl, B1.out⟩
    case round =>
      obtain ⟨j, hj, rfl, hbel⟩ := hrel
      by_cases hlt : j < 2
      · have B2 := Lib.hid hbel
        clear hbel
        go_wp2_with (first
          | (go_at_call 11; refine (C1.out _).mono ?_; rintro e w3 ⟨A3, n3, c3, rfl, hown3, b3⟩
             have O3 := Lib.hid hown3
             have B3 := Lib.hid b3
             clear hown3 b3)
          | (go_at_call 12; refine (C2.out _).mono ?_; rintro e w4 ⟨A4, n4, c4, rfl, hown4, b4⟩
             have O4 := Lib.hid hown4
             have P4 := Lib.hid (O3.out.below b4)
             have B4 := Lib.hid (B3.out.trans (b4.mono B3.out.size))
             clear hown4 b4)
          | (go_at_call 13; refine (C3.out _).mono ?_; rintro e w5 ⟨rfl, b5⟩
             have O5 := Lib.hid (O4.out.below b5)
             have P5 := Lib.hid (P4.out.below b5)
             have B5 := Lib.hid (B4.out.trans (b5.mono B4.out.size))
             clear b5)
          | (refine wpList_store_row rfl 29 (.tmp 8) (.tmp 38) rfl w5.heap.size (cellsB I).toArray rfl rfl 29 _ (Bw.new w5 (zer 32) 29) IV.out IZ.out (cellsB_ones _) ?_
             have hrow := below_setRow ((Below.refl w5.heap.size w5).alloc (Nat.le_refl _) (.cells (cellsB (zer 32)).toArray 29)) (Nat.le_refl _) (cellsB I).toArray
             have X5 := Lib.hid (Bw.row (m := I) (Bw.new w5 (zer 32) 29))
             have O6 := Lib.hid (O5.out.below hrow)
             have P6 := Lib.hid (P5.out.below hrow)
             have B6 := Lib.hid (B5.out.trans (hrow.mono B5.out.size))
             clear hrow)
          | (go_at_call 14; refine (C4.out _).mono ?_; rintro e w7 ⟨rfl, b7⟩
             have X7 := Lib.hid (X5.out.below b7 X5.out.lt)
             have O7 := Lib.hid (O6.out.below b7)
             have P7 := Lib.hid (P6.out.below b7)
             have B7 := Lib.hid (B6.out.trans (b7.mono B6.out.size))
             clear b7)
          | (refine wpList_store_row rfl 29 (.tmp 10) (.tmp 43) rfl w7.heap.size (cellsB I).toArray rfl rfl 29 _ (Bw.new w7 (zer 32) 29) IV.out IZ.out (cellsB_ones _) ?_
             have hrow := below_setRow ((Below.refl w7.heap.size w7).alloc (Nat.le_refl _) (.cells (cellsB (zer 32)).toArray 29)) (Nat.le_refl _) (cellsB I).toArray
             have Y8 := Lib.hid (Bw.row (m := I) (Bw.new w7 (zer 32) 29))
             have X8 := Lib.hid (X7.out.below hrow X7.out.lt)
             have O8 := Lib.hid (O7.out.below hrow)
             have P8 := Lib.hid (P7.out.below hrow)
             have B8 := Lib.hid (B7.out.trans (hrow.mono B7.out.size))
             clear hrow)
          | (go_at_call 15; refine (C5.out _).mono ?_; rintro e w9 ⟨rfl, b9⟩
             have X9 := Lib.hid (X8.out.below b9 X8.out.lt)
             have Y9 := Lib.hid (Y8.out.below b9 Y8.out.lt)
             have O9 := Lib.hid (O8.out.below b9)
             have P9 := Lib.hid (P8.out.below b9)
             have B9 := Lib.hid (B8.out.trans (b9.mono B8.out.size))
             clear b9)
          | (go_at_call 16; refine (C6.out _).mono ?_; rintro e w10 ⟨rfl, b10⟩
             have X10 := Lib.hid (X9.out.below b10 X9.out.lt)
             have Y10 := Lib.hid (Y9.out.below b10 Y9.out.lt)
             have p10 := P9.out.below b10
             have k1 := run_conv (P := Tryd.prog) Tryd.underlying24 Tryd.underlying5 Tryd.underlying9 _ A3 n3 c3 U p10.has
             have k2 := run_conv (P := Tryd.prog) Tryd.underlying24 Tryd.underlying5 Tryd.underlying9 _ A4 n4 c4 U (O9.out.below b10).has
             have P10 := Lib.hid p10
             have B10 := Lib.hid (B9.out.trans (b10.mono B9.out.size))
             clear b10 p10)
          | (refine wpList_load_rowG rfl 29 (.tmp 8) rfl w5.heap.size rfl (.agg (cellsB I).toArray) (X10.out.load HIL.out) ?_)
          | (refine wpList_load_rowG rfl 29 (.tmp 10) rfl w7.heap.size rfl (.agg (cellsB I).toArray) (Y10.out.load HIL.out) ?_)
          | (refine wpList_binG rfl .neq 29 29 (.tmp 76) (.tmp 77) rfl _ _ (.bool false) rfl rfl (guard_neq_id _ _ _ _ _) (neq_id_same I HIL.out _) ?_)
          | (go_at_call 17; refine (spoil_any A3 U n3 c3 _ _ P10.out).mono ?_; rintro e w11 ⟨rfl, b11⟩
             have B11 := Lib.hid (B2.out.trans ((B10.out.trans b11).mono B2.out.size))
             clear b11))
        go_roundw
        case rel => exact ⟨j + 1, by omega, by go_num, B11.out⟩
        case measure => simp [intOf]; omega
      · obtain rfl : j = 2 := by omega
        go_wp2_with fail
        go_ret
        exact ⟨rfl, hbel⟩
end Go.Proofs.YtbnlkagiliimkaaDoor
