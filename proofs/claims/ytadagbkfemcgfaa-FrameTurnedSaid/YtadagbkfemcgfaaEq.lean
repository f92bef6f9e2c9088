/-
  Own work. Arrays of integers held against each other.
-/
import Derived.Test.YtadagbkfemcgfaaG1
import Derived.Test.YtadagbkfemcgfaaIx
import Derived.DeepKeys
namespace Go.Proofs.Ytadagbkfemcgfaa
open Go.RowKit
set_option linter.unusedVariables false

end Go.Proofs.Ytadagbkfemcgfaa
