/-
  Own work. Rows of texts held against each other: alike.
-/
import Derived.Test.YtadagbkfemcgfaaGreatPr
namespace Go.Proofs.YtadagbkfemcgfaaGreat
open Go.RowKit Go.Maps
set_option linter.unusedVariables false
set_option linter.unusedSimpArgs false

/-- A row of texts. -/
def HasS (W : World) (A : Option Addr) (n : Nat) (xs : List (List UInt8)) : Prop :=
  n = xs.length ∧ (0 < n → ∃ g o, A = some ⟨g, o, none⟩ ∧ ∀ k x, xs[k]? = some x → W.cell? ⟨g, o + k, none⟩ = some (.string (strB x)))
theorem strB_toList (a : List UInt8) : (strB a).toList = a := by unfold strB; simp
theorem strB_inj {a b : List UInt8} (h : strB a = strB b) : a = b := by
  have := congrArg lst h
  rwa [lst_strB, lst_strB] at this
end Go.Proofs.YtadagbkfemcgfaaGreat
