/-
  Own work. What a call that makes bytes hands back.
-/
import Derived.Test.YtpnmcdpekfibjaaByt
namespace Go.Proofs.Ytpnmcdpekfibjaa
open Go.RowKit
set_option linter.unusedVariables false
set_option linter.unusedSimpArgs false

/-- A call that hands back new bytes l and turns nothing that was there. -/
def RetB (w : World) (l : List UInt8) (e : Ending) (w' : World) : Prop :=
  ∃ A n c, e = .returned (.slice A n c) ∧ OwnB w' w.heap.size (.slice A n c) l ∧ Below w.heap.size w w'

/-- A call that hands back new bytes l and an error's number, and turns nothing that was there. -/
def RetBE (w : World) (l : List UInt8) (k : Int) (e : Ending) (w' : World) : Prop :=
  ∃ A n c, e = .returned (.tuple #[.slice A n c, .int .i64 k]) ∧ OwnB w' w.heap.size (.slice A n c) l ∧ Below w.heap.size w w'

end Go.Proofs.Ytpnmcdpekfibjaa
