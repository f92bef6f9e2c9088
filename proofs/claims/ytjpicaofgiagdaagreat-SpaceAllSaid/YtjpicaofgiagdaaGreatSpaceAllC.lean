/-
  Own work. What the row's claim asks of the program, limb by limb.
-/
import Derived.Test.YtjpicaofgiagdaaGreatRows
import Derived.WalkKit
import Derived.ProofKit
import Derived.OpenShut
import Derived.ShutString
import Derived.ChangeOld
import Derived.Below
namespace Go.Proofs.YtjpicaofgiagdaaGreat.spaceAll
open Go.ChangeShapes Go.WideShapes Go.ChangeAt Go.RowKit
open Go.ChangeMaps (open_string shut_string)
set_option linter.unusedVariables false

theorem band {a b : Bool} (h : a = true) (k : b = true) : (a && b) = true := by rw [h, k]; rfl
set_option maxHeartbeats 4000000 in
theorem closed : joinedFacts Tryz.prog 3 Tryz.f3 Rows.spaceAllSpec Rows.spaceAllRow = true := by
  unfold joinedFacts
  repeat' with_reducible refine band ?_ ?_
  all_goals (as_aux_lemma => kernel_rfl)
end Go.Proofs.YtjpicaofgiagdaaGreat.spaceAll
