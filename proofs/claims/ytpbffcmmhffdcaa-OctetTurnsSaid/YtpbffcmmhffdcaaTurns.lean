/-
  The law OctetTurns walked: whatever the numbers, the call returns true and turns nothing that was there.
-/
import Derived.Test.YtpbffcmmhffdcaaBeg
namespace Go.Proofs.Ytpbffcmmhffdcaa
open Go.RowKit
set_option linter.unusedVariables false

theorem turns_any (v u n : Int) (w : World) (hv : -9223372036854775808 ≤ v ∧ v ≤ 9223372036854775807) (hu : 0 ≤ u ∧ u ≤ 18446744073709551615) (hn : -9223372036854775808 ≤ n ∧ n ≤ 9223372036854775807) :
    Calls Try.prog 8 #[.int .i64 v, .int .u64 u, .int .i64 n] w (RetTrue w) := by
  obtain ⟨U, rfl⟩ := Int.eq_ofNat_of_zero_le hu.1
  have hU : U < 18446744073709551616 := by omega
  have zz := zigI_bd v hv
  obtain ⟨z1, z2⟩ := zagI_bd (U : Int) hu
  go_enter Try.func8, Try.ntmps8
  go_wp2_with (first
    | (go_at_call 11; refine (begun_any _).mono ?_; rintro e w1 ⟨rfl, hb1⟩)
    | (go_at_call 28; refine (zig_any _ _ hv).mono ?_; rintro e w' ⟨rfl, rfl⟩)
    | (go_at_call 29; refine (rzig_any _ _ hv).mono ?_; rintro e w' ⟨rfl, rfl⟩)
    | (go_at_call 27; refine (zag_any _ _ hu).mono ?_; rintro e w' ⟨rfl, rfl⟩)
    | (go_at_call 30; refine (rzag_any _ _ hu).mono ?_; rintro e w' ⟨rfl, rfl⟩)
    | (go_at_call 31; refine (wrap_any _ _ _ hU hn).mono ?_; rintro e w' ⟨rfl, rfl⟩)
    | (go_at_call 32; refine (rwrap_any _ _ _ hU hn).mono ?_; rintro e w' ⟨rfl, rfl⟩))
  go_ret
  exact ⟨rfl, hb1⟩
end Go.Proofs.Ytpbffcmmhffdcaa
