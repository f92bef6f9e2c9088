/-
  Own work. The contract of the statements' own first question: does octet do anything yet? It does.
-/
import Derived.Test.YtpbffcmmhffdcaaOcr
import Derived.Test.YtpbffcmmhffdcaaNum
namespace Go.Proofs.Ytpbffcmmhffdcaa
open Go.RowKit
set_option linter.unusedVariables false

/-- True, and nothing that was there has turned. -/
def RetTrue (w : World) (e : Ending) (w' : World) : Prop := e = .returned (.bool true) ∧ Below w.heap.size w w'

theorem begun_any (w : World) : Calls Try.prog 11 #[] w (RetTrue w) := by
  go_enter Try.func11, Try.ntmps11
  go_wp2_with (first
    | (go_at_call 13; go_must (refine (put_any _ [9] 1 1 258 2 _ (HasB.row w [9] 5) (by omega) (by omega) (by omega)).mono ?_); rintro e w1 ⟨A1, n1, c1, rfl, hown1, hb1⟩
       have hcv : ∀ o, (convert 22 9 (.slice A1 n1 c1)).run Try.prog (w1.alloc o) = .ok (.string ⟨#[9, 1, 2]⟩) (w1.alloc o) := fun o => run_conv Try.underlying22 Try.underlying5 Try.underlying9 _ _ _ _ _ (hown1.alloc o).has)
    | (go_at_call 21; go_must (refine (at_ok (some ⟨w1.heap.size, 0, none⟩) [1, 2, 3] 3 3 1 2 _ (HasB.row w1 [1, 2, 3] 5) (by omega) (by omega) (by decide) (by omega) (by omega) (by omega)).mono ?_); rintro e w2 ⟨rfl, rfl⟩)
    | (go_at_call 28; refine (zig_any _ _ (by omega)).mono ?_; rintro e w' ⟨rfl, rfl⟩))
  go_ret
  have hz : (zigI (-1) == 1) = true := by decide
  have h1 : Below w.heap.size w w1 := ((Below.refl _ _).alloc (Nat.le_refl _) _).trans (hb1.mono (by simp))
  exact ⟨congrArg Ending.returned (congrArg Value.bool hz), h1.alloc h1.size _⟩
end Go.Proofs.Ytpbffcmmhffdcaa
