/-
  No cell of these rows narrows 'for every input' (looked for: loops, veiled, ifaces, maps, wideKeys, modest, calm, conditions, laid).
  DERIVED. THE GIVEN ROWS OF THIS SEAT. 8 by the template 'for every input the law returns true; each argument reads behind the call as it read before'; 0 by the template 'total and deterministic' (their statements: YthfmkdeglceppaaTotals.lean).
  GIVEN WITH THE SEED: the statements are not yours to turn. If you find one false, say at which input.
  Laid BY PROGRAM, IN A SANDBOX (cutbox-rows.mjs): the forced cells as the released guide's own fill.sh prints them over the translation 1569a89e6eaedaad… (all of the seat's roots in one cut). By AI agents, Wed Nov 11 2026. No macro, syntax, notation, axiom, sorry.
-/
import Derived.Test.YthfmkdeglceppaaChecked
import GoSem.Claim
import GoSem.ClaimJoined
import GoSem.ClaimMapViews
import Derived.JoinedTies
import Derived.KernelRfl
namespace Go.Proofs.Ythfmkdeglceppaa
/- THE CELL 'sum', in the pinned program and in every row, IS THE sha256 OF THE DUMP (.gsa) THAT YthfmkdeglceppaaProg.lean LOADS. Nothing in Lean hashes anything: it is a label: what it is worth is what the hold of that sum in a sandbox is worth. -/
noncomputable def Try.pinned : Pinned := { name := "ythfmkdeglceppaa", sum := "1569a89e6eaedaad2ed5c65201649a81ddc6bffe715f2bc284111d2a9d860742", checked := Try.checked }
namespace Rows
def none {H : Type} : Left H := { results := [], args := [] }

/-- 'cofferlaw6.JournalFront': WHATEVER THE INPUT: true; the input reads as it did. -/
def journalFrontSpec : ChangeSpec := { name := "journalFront", fn := fun _ => fun
  | [d1, d2, d3, d4, d5, d6, d7, d8] => { results := [.lit (.bool true)], args := [d1, d2, d3, d4, d5, d6, d7, d8] }
  | _ => none }
def journalFrontRow : OpenClaim := { program := "ythfmkdeglceppaa", sum := "1569a89e6eaedaad2ed5c65201649a81ddc6bffe715f2bc284111d2a9d860742", func := "coffer/cofferlaw6.JournalFront", spec := "journalFront", unfollowed := true, recurses := true, apart := false }
def JournalFrontSaid : Prop := journalFrontRow.holds Try.pinned (OpenSpec.ofChange journalFrontSpec)

/-- ITS FALSE NEIGHBOUR: 'it returns false'. Refute it at one input. -/
def journalFrontWrong : ChangeSpec := { name := "journalFront", fn := fun _ => fun
  | [d1, d2, d3, d4, d5, d6, d7, d8] => { results := [.lit (.bool false)], args := [d1, d2, d3, d4, d5, d6, d7, d8] }
  | _ => none }
def JournalFrontWrongFalsely : Prop := journalFrontRow.holds Try.pinned (OpenSpec.ofChange journalFrontWrong)

/-- 'cofferlaw6.JournalRound': WHATEVER THE INPUT: true; the input reads as it did. -/
def journalRoundSpec : ChangeSpec := { name := "journalRound", fn := fun _ => fun
  | [d1, d2, d3] => { results := [.lit (.bool true)], args := [d1, d2, d3] }
  | _ => none }
def journalRoundRow : OpenClaim := { program := "ythfmkdeglceppaa", sum := "1569a89e6eaedaad2ed5c65201649a81ddc6bffe715f2bc284111d2a9d860742", func := "coffer/cofferlaw6.JournalRound", spec := "journalRound", unfollowed := true, recurses := true, apart := false }
def JournalRoundSaid : Prop := journalRoundRow.holds Try.pinned (OpenSpec.ofChange journalRoundSpec)

/-- ITS FALSE NEIGHBOUR: 'it returns false'. Refute it at one input. -/
def journalRoundWrong : ChangeSpec := { name := "journalRound", fn := fun _ => fun
  | [d1, d2, d3] => { results := [.lit (.bool false)], args := [d1, d2, d3] }
  | _ => none }
def JournalRoundWrongFalsely : Prop := journalRoundRow.holds Try.pinned (OpenSpec.ofChange journalRoundWrong)

/-- 'cofferlaw6.JournalForged': WHATEVER THE INPUT: true; the input reads as it did. -/
def journalForgedSpec : ChangeSpec := { name := "journalForged", fn := fun _ => fun
  | [d1, d2, d3, d4, d5] => { results := [.lit (.bool true)], args := [d1, d2, d3, d4, d5] }
  | _ => none }
def journalForgedRow : OpenClaim := { program := "ythfmkdeglceppaa", sum := "1569a89e6eaedaad2ed5c65201649a81ddc6bffe715f2bc284111d2a9d860742", func := "coffer/cofferlaw6.JournalForged", spec := "journalForged", unfollowed := true, recurses := true, apart := false }
def JournalForgedSaid : Prop := journalForgedRow.holds Try.pinned (OpenSpec.ofChange journalForgedSpec)

/-- ITS FALSE NEIGHBOUR: 'it returns false'. Refute it at one input. -/
def journalForgedWrong : ChangeSpec := { name := "journalForged", fn := fun _ => fun
  | [d1, d2, d3, d4, d5] => { results := [.lit (.bool false)], args := [d1, d2, d3, d4, d5] }
  | _ => none }
def JournalForgedWrongFalsely : Prop := journalForgedRow.holds Try.pinned (OpenSpec.ofChange journalForgedWrong)

/-- 'cofferlaw6.JournalTwice': WHATEVER THE INPUT: true; the input reads as it did. -/
def journalTwiceSpec : ChangeSpec := { name := "journalTwice", fn := fun _ => fun
  | [d1, d2, d3] => { results := [.lit (.bool true)], args := [d1, d2, d3] }
  | _ => none }
def journalTwiceRow : OpenClaim := { program := "ythfmkdeglceppaa", sum := "1569a89e6eaedaad2ed5c65201649a81ddc6bffe715f2bc284111d2a9d860742", func := "coffer/cofferlaw6.JournalTwice", spec := "journalTwice", unfollowed := true, recurses := true, apart := false }
def JournalTwiceSaid : Prop := journalTwiceRow.holds Try.pinned (OpenSpec.ofChange journalTwiceSpec)

/-- ITS FALSE NEIGHBOUR: 'it returns false'. Refute it at one input. -/
def journalTwiceWrong : ChangeSpec := { name := "journalTwice", fn := fun _ => fun
  | [d1, d2, d3] => { results := [.lit (.bool false)], args := [d1, d2, d3] }
  | _ => none }
def JournalTwiceWrongFalsely : Prop := journalTwiceRow.holds Try.pinned (OpenSpec.ofChange journalTwiceWrong)

/-- 'cofferlaw7.TxnWhole': WHATEVER THE INPUT: true; the input reads as it did. -/
def txnWholeSpec : ChangeSpec := { name := "txnWhole", fn := fun _ => fun
  | [d1, d2, d3, d4] => { results := [.lit (.bool true)], args := [d1, d2, d3, d4] }
  | _ => none }
def txnWholeRow : OpenClaim := { program := "ythfmkdeglceppaa", sum := "1569a89e6eaedaad2ed5c65201649a81ddc6bffe715f2bc284111d2a9d860742", func := "coffer/cofferlaw7.TxnWhole", spec := "txnWhole", inPlace := ["maps.clone"], unfollowed := true, recurses := true, apart := false }
def TxnWholeSaid : Prop := txnWholeRow.holds Try.pinned (OpenSpec.ofChange txnWholeSpec)

/-- ITS FALSE NEIGHBOUR: 'it returns false'. Refute it at one input. -/
def txnWholeWrong : ChangeSpec := { name := "txnWhole", fn := fun _ => fun
  | [d1, d2, d3, d4] => { results := [.lit (.bool false)], args := [d1, d2, d3, d4] }
  | _ => none }
def TxnWholeWrongFalsely : Prop := txnWholeRow.holds Try.pinned (OpenSpec.ofChange txnWholeWrong)

/-- 'cofferlaw7.TxnBounds': WHATEVER THE INPUT: true; the input reads as it did. -/
def txnBoundsSpec : ChangeSpec := { name := "txnBounds", fn := fun _ => fun
  | [d1, d2] => { results := [.lit (.bool true)], args := [d1, d2] }
  | _ => none }
def txnBoundsRow : OpenClaim := { program := "ythfmkdeglceppaa", sum := "1569a89e6eaedaad2ed5c65201649a81ddc6bffe715f2bc284111d2a9d860742", func := "coffer/cofferlaw7.TxnBounds", spec := "txnBounds", inPlace := ["maps.clone"], unfollowed := true, recurses := true, apart := false }
def TxnBoundsSaid : Prop := txnBoundsRow.holds Try.pinned (OpenSpec.ofChange txnBoundsSpec)

/-- ITS FALSE NEIGHBOUR: 'it returns false'. Refute it at one input. -/
def txnBoundsWrong : ChangeSpec := { name := "txnBounds", fn := fun _ => fun
  | [d1, d2] => { results := [.lit (.bool false)], args := [d1, d2] }
  | _ => none }
def TxnBoundsWrongFalsely : Prop := txnBoundsRow.holds Try.pinned (OpenSpec.ofChange txnBoundsWrong)

/-- 'cofferlaw7.TxnOwn': WHATEVER THE INPUT: true; the input reads as it did. -/
def txnOwnSpec : ChangeSpec := { name := "txnOwn", fn := fun _ => fun
  | [d1, d2, d3] => { results := [.lit (.bool true)], args := [d1, d2, d3] }
  | _ => none }
def txnOwnRow : OpenClaim := { program := "ythfmkdeglceppaa", sum := "1569a89e6eaedaad2ed5c65201649a81ddc6bffe715f2bc284111d2a9d860742", func := "coffer/cofferlaw7.TxnOwn", spec := "txnOwn", inPlace := ["maps.clone"], unfollowed := true, recurses := true, apart := false }
def TxnOwnSaid : Prop := txnOwnRow.holds Try.pinned (OpenSpec.ofChange txnOwnSpec)

/-- ITS FALSE NEIGHBOUR: 'it returns false'. Refute it at one input. -/
def txnOwnWrong : ChangeSpec := { name := "txnOwn", fn := fun _ => fun
  | [d1, d2, d3] => { results := [.lit (.bool false)], args := [d1, d2, d3] }
  | _ => none }
def TxnOwnWrongFalsely : Prop := txnOwnRow.holds Try.pinned (OpenSpec.ofChange txnOwnWrong)

/-- 'cofferlaw7.TxnNone': WHATEVER THE INPUT: true; the input reads as it did. -/
def txnNoneSpec : ChangeSpec := { name := "txnNone", fn := fun _ => fun
  | [] => { results := [.lit (.bool true)], args := [] }
  | _ => none }
def txnNoneRow : OpenClaim := { program := "ythfmkdeglceppaa", sum := "1569a89e6eaedaad2ed5c65201649a81ddc6bffe715f2bc284111d2a9d860742", func := "coffer/cofferlaw7.TxnNone", spec := "txnNone", inPlace := ["maps.clone"], unfollowed := true, recurses := true, apart := false }
def TxnNoneSaid : Prop := txnNoneRow.holds Try.pinned (OpenSpec.ofChange txnNoneSpec)

/-- ITS FALSE NEIGHBOUR: 'it returns false'. Refute it at one input. -/
def txnNoneWrong : ChangeSpec := { name := "txnNone", fn := fun _ => fun
  | [] => { results := [.lit (.bool false)], args := [] }
  | _ => none }
def TxnNoneWrongFalsely : Prop := txnNoneRow.holds Try.pinned (OpenSpec.ofChange txnNoneWrong)

/- THE SECOND FORM. 'bulk': how many values and letters a reading holds, each counted each time it is reached (what is shared counts as often as it is met; a slice's spare places count too). A statement '..UptoSaid' is the law's where the arguments, and the package variables that the reading takes, are together of bulk at most 1048576: NARROWER than '..Said'. Prove '..Said' where nothing that the law and all that it calls make is longer than what came in: it says more and counts as full. Else prove '..UptoSaid'. A law counts once. -/
mutual
def uptoBulk {H : Type} : DataW H → Nat
  | .lit (.string bytes) => bytes.length + 1
  | .lit _ => 1
  | .nil => 1
  | .ptr d => uptoBulk d + 1
  | .slice elems spare => uptoBulkAll elems + uptoBulkAll spare + 1
  | .agg parts => uptoBulkAll parts + 1
  | .iface _ d => uptoBulk d + 1
  | .map entries => uptoBulkEntries entries + 1
  | .held _ => 1
def uptoBulkAll {H : Type} : List (DataW H) → Nat
  | [] => 0
  | d :: r => uptoBulk d + uptoBulkAll r
def uptoBulkEntries {H : Type} : List (Lit × DataW H) → Nat
  | [] => 0
  | x :: r => uptoBulkEntry x + uptoBulkEntries r
def uptoBulkEntry {H : Type} : Lit × DataW H → Nat
  | (.string bytes, d) => bytes.length + uptoBulk d + 1
  | (_, d) => uptoBulk d + 1
 end
def uptoSmall : (H : Type) → List (DataW H) → Bool := fun _ ds => decide (uptoBulkAll ds ≤ 1048576)
def OpenSpec.upto (s : _root_.Go.ChangeSpec) : _root_.Go.OpenSpec := { _root_.Go.OpenSpec.ofChange s with cond := some uptoSmall }

/-- 'cofferlaw6.JournalFront', WHERE WHAT IT READS IS OF BULK AT MOST 1048576: true; the input reads as it did. -/
def journalFrontUptoRow : OpenClaim := { program := "ythfmkdeglceppaa", sum := "1569a89e6eaedaad2ed5c65201649a81ddc6bffe715f2bc284111d2a9d860742", func := "coffer/cofferlaw6.JournalFront", spec := "journalFront", unfollowed := true, recurses := true, apart := false, narrowed := true }
def JournalFrontUptoSaid : Prop := journalFrontUptoRow.holds Try.pinned (OpenSpec.upto journalFrontSpec)

/-- 'cofferlaw6.JournalRound', WHERE WHAT IT READS IS OF BULK AT MOST 1048576: true; the input reads as it did. -/
def journalRoundUptoRow : OpenClaim := { program := "ythfmkdeglceppaa", sum := "1569a89e6eaedaad2ed5c65201649a81ddc6bffe715f2bc284111d2a9d860742", func := "coffer/cofferlaw6.JournalRound", spec := "journalRound", unfollowed := true, recurses := true, apart := false, narrowed := true }
def JournalRoundUptoSaid : Prop := journalRoundUptoRow.holds Try.pinned (OpenSpec.upto journalRoundSpec)

/-- 'cofferlaw6.JournalForged', WHERE WHAT IT READS IS OF BULK AT MOST 1048576: true; the input reads as it did. -/
def journalForgedUptoRow : OpenClaim := { program := "ythfmkdeglceppaa", sum := "1569a89e6eaedaad2ed5c65201649a81ddc6bffe715f2bc284111d2a9d860742", func := "coffer/cofferlaw6.JournalForged", spec := "journalForged", unfollowed := true, recurses := true, apart := false, narrowed := true }
def JournalForgedUptoSaid : Prop := journalForgedUptoRow.holds Try.pinned (OpenSpec.upto journalForgedSpec)

/-- 'cofferlaw6.JournalTwice', WHERE WHAT IT READS IS OF BULK AT MOST 1048576: true; the input reads as it did. -/
def journalTwiceUptoRow : OpenClaim := { program := "ythfmkdeglceppaa", sum := "1569a89e6eaedaad2ed5c65201649a81ddc6bffe715f2bc284111d2a9d860742", func := "coffer/cofferlaw6.JournalTwice", spec := "journalTwice", unfollowed := true, recurses := true, apart := false, narrowed := true }
def JournalTwiceUptoSaid : Prop := journalTwiceUptoRow.holds Try.pinned (OpenSpec.upto journalTwiceSpec)

/-- 'cofferlaw7.TxnWhole', WHERE WHAT IT READS IS OF BULK AT MOST 1048576: true; the input reads as it did. -/
def txnWholeUptoRow : OpenClaim := { program := "ythfmkdeglceppaa", sum := "1569a89e6eaedaad2ed5c65201649a81ddc6bffe715f2bc284111d2a9d860742", func := "coffer/cofferlaw7.TxnWhole", spec := "txnWhole", inPlace := ["maps.clone"], unfollowed := true, recurses := true, apart := false, narrowed := true }
def TxnWholeUptoSaid : Prop := txnWholeUptoRow.holds Try.pinned (OpenSpec.upto txnWholeSpec)

/-- 'cofferlaw7.TxnBounds', WHERE WHAT IT READS IS OF BULK AT MOST 1048576: true; the input reads as it did. -/
def txnBoundsUptoRow : OpenClaim := { program := "ythfmkdeglceppaa", sum := "1569a89e6eaedaad2ed5c65201649a81ddc6bffe715f2bc284111d2a9d860742", func := "coffer/cofferlaw7.TxnBounds", spec := "txnBounds", inPlace := ["maps.clone"], unfollowed := true, recurses := true, apart := false, narrowed := true }
def TxnBoundsUptoSaid : Prop := txnBoundsUptoRow.holds Try.pinned (OpenSpec.upto txnBoundsSpec)

/-- 'cofferlaw7.TxnOwn', WHERE WHAT IT READS IS OF BULK AT MOST 1048576: true; the input reads as it did. -/
def txnOwnUptoRow : OpenClaim := { program := "ythfmkdeglceppaa", sum := "1569a89e6eaedaad2ed5c65201649a81ddc6bffe715f2bc284111d2a9d860742", func := "coffer/cofferlaw7.TxnOwn", spec := "txnOwn", inPlace := ["maps.clone"], unfollowed := true, recurses := true, apart := false, narrowed := true }
def TxnOwnUptoSaid : Prop := txnOwnUptoRow.holds Try.pinned (OpenSpec.upto txnOwnSpec)

/-- 'cofferlaw7.TxnNone', WHERE WHAT IT READS IS OF BULK AT MOST 1048576: true; the input reads as it did. -/
def txnNoneUptoRow : OpenClaim := { program := "ythfmkdeglceppaa", sum := "1569a89e6eaedaad2ed5c65201649a81ddc6bffe715f2bc284111d2a9d860742", func := "coffer/cofferlaw7.TxnNone", spec := "txnNone", inPlace := ["maps.clone"], unfollowed := true, recurses := true, apart := false, narrowed := true }
def TxnNoneUptoSaid : Prop := txnNoneUptoRow.holds Try.pinned (OpenSpec.upto txnNoneSpec)

end Rows
end Go.Proofs.Ythfmkdeglceppaa
