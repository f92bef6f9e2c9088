/-
  The laws of names walked, over the contracts of its functions.
-/
import Derived.Test.YtbnlkagiliimkaaDoorIi
import Derived.Test.YtbnlkagiliimkaaDoorNm
import Derived.Test.YtbnlkagiliimkaaDoorTk
namespace Go.Proofs.YtbnlkagiliimkaaDoor
open Go.RowKit
set_option linter.unusedVariables false
set_option linter.unusedSimpArgs false

theorem prt5 : prtL (-5) = [45, 53] := by
  unfold prtL
  rw [if_pos (by omega), show (-5 : Int).natAbs = 5 from rfl, decL_small (by omega)]
  rfl
theorem beg_num : numV [49, 55] = 17 ∧ numE [49, 55] = 0 := by decide +kernel
theorem beg_may : mayB [97, 45, 49] = true := by decide +kernel
theorem beg_hex : hexL [10, 255] = [48, 97, 102, 102] := by decide +kernel

set_option maxRecDepth 100000 in
set_option maxHeartbeats 400000 in
theorem begun_any (w : World) (tabw : TabW w) : Calls Tryd.prog 8 #[] w (RetTrue w) := by
  have c1 := fun W => number_any [49, 55] W (by simp)
  have c2 := fun W => may_any [97, 45, 49] W (by simp)
  have c4 := fun W (hW : Below w.heap.size w W) => print_any (-5) W (by omega) (tabw W hW)
  rw [beg_num.1, beg_num.2] at c1
  rw [beg_may] at c2
  rw [prt5] at c4
  have C1 := Lib.hid c1
  have C2 := Lib.hid c2
  have C4 := Lib.hid c4
  clear c1 c2 c4
  go_enter Tryd.func8, Tryd.ntmps8
  go_wp2_with (first
    | (go_at_call 15; refine (C1.out _).mono ?_; rintro e w1 ⟨rfl, b1⟩
       have B1 := Lib.hid b1
       clear b1)
    | (go_at_call 9; refine (C2.out _).mono ?_; rintro e w2 ⟨rfl, b2⟩
       have b2' := B1.out.trans (b2.mono B1.out.size)
       have B2 := Lib.hid (b2'.alloc b2'.size (.cells #[.int .u8 10, .int .u8 255] 5))
       have h3 := hex_any (some ⟨w2.heap.size, 0, none⟩) 2 2 [10, 255] (w2.alloc (.cells (cellsB [10, 255]).toArray 5)) (HasB.row w2 [10, 255] 5) (by omega) (by omega)
       rw [beg_hex] at h3
       have C3 := Lib.hid h3
       clear b2 b2' h3)
    | (go_at_call 19; refine C3.out.mono ?_; rintro e w3 ⟨rfl, b3⟩
       have B3 := Lib.hid (B2.out.trans (b3.mono B2.out.size))
       clear b3)
    | (go_at_call 21; refine (C4.out _ B3.out).mono ?_; rintro e w4 ⟨rfl, b4⟩
       have B4 := Lib.hid (B3.out.trans (b4.mono B3.out.size))
       clear b4))
  go_ret
  exact ⟨rfl, B4.out⟩

set_option maxRecDepth 100000 in
set_option maxHeartbeats 400000 in
theorem may_law (l : List UInt8) (w : World) (tabw : TabW w) (hl : l.length ≤ 9223372036854775807) : Calls Tryd.prog 3 #[.string ⟨l.toArray⟩] w (RetTrue w) := by
  obtain ⟨S, hS⟩ : ∃ S : ByteArray, S = ⟨l.toArray⟩ := ⟨_, rfl⟩
  have hsz := str_size l S hS
  obtain ⟨n, hn⟩ : ∃ n, l.length = n := ⟨_, rfl⟩
  rw [hn] at hsz hl
  by_cases hbig : 4096 < n
  · rw [← hS]
    clear hS hn
    go_enter Tryd.func3, Tryd.ntmps3
    go_wp2_with (go_at_call 8; refine (begun_any _ tabw).mono ?_; rintro e w1 ⟨rfl, b1⟩)
    go_ret
    exact ⟨rfl, b1⟩
  · have c1 := fun W => may_any l W (by omega)
    have c2 := fun W => rmay_any l W (by omega)
    rw [← hS] at c1 c2 ⊢
    generalize mayB l = r at c1 c2
    have C1 := Lib.hid c1
    have C2 := Lib.hid c2
    clear hS hn c1 c2
    go_enter Tryd.func3, Tryd.ntmps3
    go_wp2_with (first
      | (go_at_call 8; refine (begun_any _ tabw).mono ?_; rintro e w1 ⟨rfl, b1⟩
         have B1 := Lib.hid b1
         clear b1)
      | (go_at_call 9; refine (C1.out _).mono ?_; rintro e w2 ⟨rfl, b2⟩
         have B2 := Lib.hid (B1.out.trans (b2.mono B1.out.size))
         clear b2)
      | (go_at_call 10; refine (C2.out _).mono ?_; rintro e w3 ⟨rfl, rfl⟩))
    go_ret
    exact ⟨rfl, B2.out⟩

set_option maxRecDepth 100000 in
set_option maxHeartbeats 600000 in
theorem writes_law (A : Option Addr) (n c : Nat) (l : List UInt8) (v : Int) (w : World) (tabw : TabW w) (h : HasB w w.heap.size A n l) (hc : n ≤ c) (hcm : c ≤ maxLen) (hv : -9223372036854775808 ≤ v ∧ v ≤ 9223372036854775807) :
    Calls Tryd.prog 5 #[.slice A n c, .int .i64 v] w (RetTrue w) := by
  unfold maxLen at hcm
  have HL := Lib.hid h.len
  by_cases hbig : 4096 < n
  · clear h
    go_enter Tryd.func5, Tryd.ntmps5
    go_wp2_with (go_at_call 8; refine (begun_any _ tabw).mono ?_; rintro e w1 ⟨rfl, b1⟩)
    go_ret
    exact ⟨rfl, b1⟩
  · have HS := Lib.hid h
    have HV := Lib.hid hv
    obtain ⟨X, hX⟩ : ∃ X : ByteArray, (⟨(hexL l).toArray⟩ : ByteArray) = X := ⟨_, rfl⟩
    obtain ⟨Y, hY⟩ : ∃ Y : ByteArray, (⟨(prtL v).toArray⟩ : ByteArray) = Y := ⟨_, rfl⟩
    have c1 : ∀ A' c' W, HasB W W.heap.size A' n l → n ≤ c' → Calls Tryd.prog 19 #[.slice A' n c'] W (fun e w' => e = .returned (.string X) ∧ Below W.heap.size W w') := fun A' c' W h1 h2 => by have := hex_any A' n c' l W h1 h2 (by omega); unfold RetStr at this; rwa [hX] at this
    have c2 : ∀ W, HasB W W.heap.size A n l → Calls Tryd.prog 20 #[.slice A n c] W (fun e w' => e = .returned (.string X) ∧ Below W.heap.size W w') := fun W h1 => by have := rhex_any A n c l W h1 (by omega); unfold RetStr at this; rwa [hX] at this
    have c3 : ∀ W, Below w.heap.size w W → Calls Tryd.prog 21 #[.int .i64 v] W (fun e w' => e = .returned (.string Y) ∧ Below W.heap.size W w') := fun W hW => by have := print_any v W hv (tabw W hW); unfold RetStr at this; rwa [hY] at this
    have c4 : ∀ W, Calls Tryd.prog 22 #[.int .i64 v] W (fun e w' => e = .returned (.string Y) ∧ Below W.heap.size W w') := fun W => by have := rprint_any v W hv; unfold RetStr at this; rwa [hY] at this
    have C1 := Lib.hid c1
    have C2 := Lib.hid c2
    have C3 := Lib.hid c3
    have C4 := Lib.hid c4
    clear h hX hY c1 c2 c3 c4 hv
    go_enter Tryd.func5, Tryd.ntmps5
    go_wp2_with (first
      | (go_at_call 8; refine (begun_any _ tabw).mono ?_; rintro e w1 ⟨rfl, b1⟩
         have B1 := Lib.hid b1
         clear b1)
      | (go_at_call 18; refine (twin_any A l n c _ (HS.out.on B1.out) (by omega)).mono ?_; rintro e w2 ⟨A2, rfl, ht2, b2⟩
         have B2 := Lib.hid (B1.out.trans (b2.mono B1.out.size))
         have T2 := Lib.hid ht2
         clear ht2 b2)
      | (go_at_call 19; refine (C1.out _ _ _ (T2.out.has HL.out) (by omega)).mono ?_; rintro e w3 ⟨rfl, b3⟩
         have B3 := Lib.hid (B2.out.trans (b3.mono B2.out.size))
         have T3 := Lib.hid (T2.out.below b3)
         clear b3)
      | (go_at_call 20; refine (C2.out _ (HS.out.on B3.out)).mono ?_; rintro e w4 ⟨rfl, b4⟩
         have B4 := Lib.hid (B3.out.trans (b4.mono B3.out.size))
         have T4 := Lib.hid (T3.out.below b4)
         clear b4)
      | (go_at_call 21; refine (C3.out _ B4.out).mono ?_; rintro e w5 ⟨rfl, b5⟩
         have B5 := Lib.hid (B4.out.trans (b5.mono B4.out.size))
         have T5 := Lib.hid (T4.out.below b5)
         clear b5)
      | (go_at_call 22; refine (C4.out _).mono ?_; rintro e w6 ⟨rfl, b6⟩
         have B6 := Lib.hid (B5.out.trans (b6.mono B5.out.size))
         have T6 := Lib.hid (T5.out.below b6)
         clear b6)
      | (go_at_call 23; refine (kept_any A2 A l n c _ _ T6.out (HS.out.on B6.out) (by omega)).mono ?_; rintro e w7 ⟨rfl, rfl⟩))
    go_ret
    exact ⟨rfl, B6.out⟩
end Go.Proofs.YtbnlkagiliimkaaDoor
