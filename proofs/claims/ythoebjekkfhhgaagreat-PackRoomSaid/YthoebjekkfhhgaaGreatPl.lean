/-
  Own work.
-/
import Derived.Test.YthoebjekkfhhgaaGreatG1
set_option linter.unusedVariables false
set_option linter.unusedSimpArgs false
namespace Go.Proofs.YthoebjekkfhhgaaGreat
open Go.RowKit
theorem place_any (k : Int) (n : Nat) (w : World) (hk : -9223372036854775808 <= k /\ k <= 9223372036854775807) (hn : 1 <= n) (hm : n <= 1073741824) :
 Calls Tryz.prog 8 #[.int .i64 k, .int .i64 (n : Int)] w fun e w' => (∃ j : Nat, j < n /\ e = .returned (.int .i64 (j : Int))) /\ w = w' := by
 have h1 : -(n : Int) < k.tmod n := by
  have := Int.lt_tmod_of_pos k (b := n) (by omega)
  exact this
 have h2 : k.tmod n < n := Int.tmod_lt_of_pos k (by omega)
 obtain ⟨r, hr⟩ : ∃ r, k.tmod n = r := ⟨_, rfl⟩
 rw [hr] at h1 h2
 obtain ⟨h3, h4⟩ := hk
 go_enter Tryz.func8, Tryz.ntmps8
 go_wp2
 all_goals go_ret
 · exact ⟨⟨(r + n).toNat, by omega, by show Ending.returned (.int .i64 (r + n)) = _; rw [Int.toNat_of_nonneg (by omega)]⟩, rfl⟩
 · exact ⟨⟨r.toNat, by omega, by show Ending.returned (.int .i64 r) = _; rw [Int.toNat_of_nonneg (by omega)]⟩, rfl⟩
end Go.Proofs.YthoebjekkfhhgaaGreat
