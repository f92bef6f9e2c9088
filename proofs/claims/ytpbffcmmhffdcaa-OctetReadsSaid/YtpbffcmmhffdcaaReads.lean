/-
  The law OctetReads walked: what stands in bytes is read as the document has it.
-/
import Derived.Test.YtpbffcmmhffdcaaBeg
import Derived.Test.YtpbffcmmhffdcaaRef
import Derived.Test.YtpbffcmmhffdcaaLaw0
namespace Go.Proofs.Ytpbffcmmhffdcaa
open Go.RowKit
set_option linter.unusedVariables false

set_option maxRecDepth 100000 in
set_option maxHeartbeats 1000000 in
theorem reads_law (A : Option Addr) (l : List UInt8) (n c : Nat) (p k : Int) (w : World) (h : HasB w w.heap.size A n l) (hnc : n ≤ c) (hcm : c ≤ maxLen)
    (hp : -9223372036854775808 ≤ p ∧ p ≤ 9223372036854775807) (hk : -9223372036854775808 ≤ k ∧ k ≤ 9223372036854775807) :
    Calls Try.prog 4 #[.slice A n c, .int .i64 p, .int .i64 k] w (RetTrue w) := by
  have hn : n ≤ 9223372036854775807 := by unfold maxLen at hcm; omega
  have HCM := Lib.hid hcm
  clear hcm
  by_cases c1 : n ≤ 131072
  · go_enter Try.func4, Try.ntmps4
    go_wp2_with fail
    refine (begun_any _).mono ?_
    rintro e w1 ⟨rfl, hb1⟩
    go_wp2_with fail
    refine (twin_any A l n c _ (h.on hb1) (by omega)).mono ?_
    rintro e w2 ⟨T, rfl, htw, hb2⟩
    go_wp2_with fail
    have hb12 : Below w.heap.size w w2 := hb1.trans (hb2.mono hb1.size)
    go_loopw [8] (fun x wr => ∃ j : Nat, j ≤ 2 ∧ x = .int .i64 (j : Int) ∧ Below w2.heap.size w2 wr) (fun x _ => 2 - (intOf x).toNat)
    case atStart => exact ⟨0, by omega, rfl, Below.refl _ _⟩
    case round =>
      obtain ⟨j, hj, rfl, hbel⟩ := hrel
      have hB : Below w.heap.size w wr := hb12.trans (hbel.mono hb12.size)
      by_cases hlt : j < 2
      · have h0 := h.on hB
        have ht0 := htw.below hbel
        have htn : HasB wr wr.heap.size T n l := ht0.has h.len
        have q1 := at_any T l n (n + 3) p k wr htn (by omega) (by omega) (by simp only [maxLen]; omega) hp hk
        have q2 := rat_any A l n c p k wr h0 (by omega) hp hk
        have q3 := takeCount_any T l n (n + 3) wr htn (by omega)
        have q4 := rtakeCount_any A l n c wr h0 (by omega)
        have q5 := takeText_any T l n (n + 3) wr htn (by omega) (by omega) (by simp only [maxLen]; omega)
        have q6 := fun (W : World) (hW : Below wr.heap.size wr W) => rtakeText_any A l n c W (h0.on hW) (by omega) hnc HCM.out
        have q7 := fun (W : World) (hW : Below wr.heap.size wr W) => kept_any T A l n c w1.heap.size W (ht0.below hW) (h0.on hW) (by omega)
        unfold tcRet at q3 q4
        generalize atV l p k = v1 at *
        generalize atE l p k = E1 at *
        generalize (tcS l 0 0).1 = v2 at *
        generalize (tcS l 0 0).2.1 = k2 at *
        generalize (tcS l 0 0).2.2 = E2 at *
        generalize ttL l = l' at *
        generalize ttN l = k3 at *
        generalize ttE l = E3 at *
        have Q1 := Lib.hid q1
        have Q2 := Lib.hid q2
        have Q3 := Lib.hid q3
        have Q4 := Lib.hid q4
        have Q5 := Lib.hid q5
        have Q6 := Lib.hid q6
        have Q7 := Lib.hid q7
        clear q1 q2 q3 q4 q5 q6 q7
        go_wp2_with fail
        refine Q1.out.mono ?_
        rintro e w' ⟨rfl, rfl⟩
        go_wp2_with fail
        refine Q2.out.mono ?_
        rintro e w' ⟨rfl, rfl⟩
        go_wp2_with fail
        refine Q3.out.mono ?_
        rintro e w' ⟨rfl, rfl⟩
        go_wp2_with fail
        refine Q4.out.mono ?_
        rintro e w' ⟨rfl, rfl⟩
        go_wp2_with fail
        refine Q5.out.mono ?_
        rintro e w3 ⟨A3, n3, c3, rfl, hown3, hb3⟩
        go_wp2_with fail
        refine (Q6.out _ hb3).mono ?_
        rintro e w4 ⟨A4, n4, c4, rfl, hown4, hb4⟩
        have hb34 : Below wr.heap.size wr w4 := hb3.trans (hb4.mono hb3.size)
        have k1 := run_conv (P := Try.prog) Try.underlying22 Try.underlying5 Try.underlying9 _ _ _ c3 _ (hown3.below hb4).has
        have k2 := run_conv (P := Try.prog) Try.underlying22 Try.underlying5 Try.underlying9 _ _ _ c4 _ hown4.has
        go_wp2_with (first
          | (go_at_call 19; refine (Q7.out _ hb34).mono ?_; rintro e w' ⟨rfl, rfl⟩)
          | (go_at_call 20; refine (spoil_any A3 l' n3 c3 wr.heap.size _ (hown3.below hb4)).mono ?_; rintro e w5 ⟨rfl, hb5⟩))
        go_roundw
        case rel => exact ⟨j + 1, by omega, by go_num, hbel.trans ((hb34.trans hb5).mono hbel.size)⟩
        case measure => simp [intOf]; omega
      · obtain rfl : j = 2 := by omega
        go_wp2_with fail
        go_ret
        exact ⟨rfl, hB⟩
  · go_enter Try.func4, Try.ntmps4
    go_wp2_with fail
    refine (begun_any _).mono ?_
    rintro e w1 ⟨rfl, hb1⟩
    go_wp2_with fail
    go_ret
    exact ⟨rfl, hb1⟩
end Go.Proofs.Ytpbffcmmhffdcaa
