/-
  The law OctetBits walked: bits are told and set as the document has it.
-/
import Derived.Test.YtpbffcmmhffdcaaBeg
import Derived.Test.YtpbffcmmhffdcaaRbit
import Derived.Test.YtpbffcmmhffdcaaLaw0
namespace Go.Proofs.Ytpbffcmmhffdcaa
open Go.RowKit
set_option linter.unusedVariables false

set_option maxHeartbeats 1000000 in
theorem bits_law (A : Option Addr) (l : List UInt8) (n c : Nat) (i : Int) (on : Bool) (w : World) (h : HasB w w.heap.size A n l) (hn : n ≤ maxLen)
    (hi : -9223372036854775808 ≤ i ∧ i ≤ 9223372036854775807) :
    Calls Try.prog 9 #[.slice A n c, .int .i64 i, .bool on] w (RetTrue w) := by
  unfold maxLen at hn
  by_cases c1 : n ≤ 65536
  · go_enter Try.func9, Try.ntmps9
    go_wp2_with fail
    refine (begun_any _).mono ?_
    rintro e w1 ⟨rfl, hb1⟩
    go_wp2_with fail
    refine (twin_any A l n c _ (h.on hb1) (by omega)).mono ?_
    rintro e w2 ⟨T, rfl, htw, hb2⟩
    go_wp2_with fail
    have hb12 : Below w.heap.size w w2 := hb1.trans (hb2.mono hb1.size)
    go_loopw [8] (fun x wr => ∃ j : Nat, j ≤ 2 ∧ x = .int .i64 (j : Int) ∧ Below w2.heap.size w2 wr) (fun x _ => 2 - (intOf x).toNat)
    case atStart => exact ⟨0, by omega, rfl, Below.refl _ _⟩
    case round =>
      obtain ⟨j, hj, rfl, hbel⟩ := hrel
      have hB : Below w.heap.size w wr := hb12.trans (hbel.mono hb12.size)
      by_cases hlt : j < 2
      · have h0 := h.on hB
        have ht0 := htw.below hbel
        have htn := ht0.has h.len
        have htn' : HasB wr wr.heap.size T n l := htn
        have hbase : w1.heap.size ≤ wr.heap.size := Nat.le_trans hb2.size hbel.size
        have hbt := bit_any T l n (n + 3) i wr htn' (by omega) hi
        have hbr := rbit_any A l n c i wr h0 (by omega) hi
        have hst := setbit_any T l n (n + 3) i on wr htn' (by omega) hi
        have hsr := fun (W : World) (hW : Below wr.heap.size wr W) => rsetbit_any A l n c i on W (h0.on hW) (by omega) hi
        generalize bitV l i = v at *
        generalize bitE l i = E at *
        generalize setL l i on = l' at *
        have HBT := Lib.hid hbt
        have HBR := Lib.hid hbr
        have HST := Lib.hid hst
        have HSR := Lib.hid hsr
        have hkt := fun (W : World) (hW : Below wr.heap.size wr W) => kept_any T A l n c w1.heap.size W (ht0.below hW) (h0.on hW) (by omega)
        have HKT := Lib.hid hkt
        clear hbt hbr hst hsr hkt
        go_wp2_with fail
        refine HBT.out.mono ?_
        rintro e w' ⟨rfl, rfl⟩
        go_wp2_with fail
        refine HBR.out.mono ?_
        rintro e w' ⟨rfl, rfl⟩
        go_wp2_with fail
        refine HST.out.mono ?_
        rintro e w3 ⟨A3, n3, c3, rfl, hown3, hb3⟩
        go_wp2_with fail
        refine (HSR.out _ hb3).mono ?_
        rintro e w4 ⟨A4, n4, c4, rfl, hown4, hb4⟩
        have hb34 : Below wr.heap.size wr w4 := hb3.trans (hb4.mono hb3.size)
        have k1 := run_conv (P := Try.prog) Try.underlying22 Try.underlying5 Try.underlying9 _ _ _ c3 _ (hown3.below hb4).has
        have k2 := run_conv (P := Try.prog) Try.underlying22 Try.underlying5 Try.underlying9 _ _ _ c4 _ hown4.has
        have hc3 := hown3.caps.2
        go_wp2_with (first
          | (go_at_call 19; refine (HKT.out _ hb34).mono ?_; rintro e w' ⟨rfl, rfl⟩)
          | (go_at_call 20; refine (spoil_any A3 l' n3 c3 wr.heap.size _ (hown3.below hb4)).mono ?_; rintro e w5 ⟨rfl, hb5⟩))
        go_roundw
        case rel => exact ⟨j + 1, by omega, by go_num, hbel.trans ((hb34.trans hb5).mono hbel.size)⟩
        case measure => simp [intOf]; omega
      · obtain rfl : j = 2 := by omega
        go_wp2_with fail
        go_ret
        exact ⟨rfl, hB⟩
  · go_enter Try.func9, Try.ntmps9
    go_wp2_with fail
    refine (begun_any _).mono ?_
    rintro e w1 ⟨rfl, hb1⟩
    go_wp2_with fail
    go_ret
    exact ⟨rfl, hb1⟩
end Go.Proofs.Ytpbffcmmhffdcaa
