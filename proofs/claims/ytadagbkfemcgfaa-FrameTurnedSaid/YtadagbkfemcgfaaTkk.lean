/-
  Own work. cofferlaw0's Kept.
-/
import Derived.Test.YtadagbkfemcgfaaG1
namespace Go.Proofs.Ytadagbkfemcgfaa
open Go.RowKit
set_option linter.unusedVariables false

set_option maxRecDepth 100000 in
theorem kept_any (A C : Option Addr) (l : List UInt8) (n c : Nat) (base : Nat) (w : World) (h : TwinB w base A l) (hb : HasB w w.heap.size C n l) (hn : n ≤ 1073741824) :
    Calls Try.prog 12 #[.slice A n (n + 3), .slice C n c] w fun e w' => e = .returned (.bool true) ∧ w = w' := by
  have hl := hb.len
  have c1 := run_conv (P := Try.prog) Try.underlying24 Try.underlying5 Try.underlying9 _ _ _ (n + 3) _ (h.has hl)
  have c2 := run_conv (P := Try.prog) Try.underlying24 Try.underlying5 Try.underlying9 _ _ _ c _ hb
  generalize (⟨l.toArray⟩ : ByteArray) = s at c1 c2
  obtain ⟨g, rfl, hown⟩ := h
  obtain ⟨g', e, _, _, hc⟩ := hown.head (by omega)
  simp only [Option.some.injEq, Addr.mk.injEq, and_true] at e
  subst e
  have hcell : ∀ j, j < 3 → w.cell? ⟨g, n + j, none⟩ = some (.int .u8 229) := by
    intro j hj
    refine hc (n + j) 229 ?_
    rw [List.getElem?_append_right (by omega), show n + j - l.length = j by omega]
    rcases (show j = 0 ∨ j = 1 ∨ j = 2 by omega) with rfl | rfl | rfl <;> rfl
  have HC := Lib.hid hcell
  clear hcell hc hown hl
  go_enter Try.func12, Try.ntmps12
  go_wp2_with fail
  go_loop [6] (fun x => ∃ j : Nat, j ≤ 3 ∧ x = .int .i64 ((n + j : Nat) : Int)) (fun x => n + 3 - (intOf x).toNat)
  case atStart => exact ⟨0, by omega, by simp⟩
  case round =>
    obtain ⟨j, hj, rfl⟩ := hrel
    by_cases hlt : j < 3
    · have hcc := HC.out j hlt
      go_wp2_with fail
      go_round
      case rel => exact ⟨j + 1, by omega, by go_num⟩
      case measure => simp [intOf]; omega
    · obtain rfl : j = 3 := by omega
      go_wp2_with fail
      go_ret
      exact ⟨rfl, rfl⟩

end Go.Proofs.Ytadagbkfemcgfaa
