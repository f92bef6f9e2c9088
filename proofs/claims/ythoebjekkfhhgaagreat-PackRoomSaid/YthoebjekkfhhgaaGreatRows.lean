/-
  No cell of these rows narrows 'for every input' (looked for: loops, veiled, ifaces, maps, wideKeys, modest, calm, conditions, laid).
  DERIVED. THE GIVEN ROWS OF THIS SEAT. 4 by the template 'for every input the law returns true; each argument reads behind the call as it read before'; 0 by the template 'total and deterministic' (their statements: YthoebjekkfhhgaaGreatTotals.lean).
  GIVEN WITH THE SEED: the statements are not yours to turn. If you find one false, say at which input.
  Laid BY PROGRAM, IN A SANDBOX (cutbox-rows.mjs): the forced cells as the released guide's own fill.sh prints them over the translation e779a3da8a23e5a9… (all of the seat's roots in one cut). By AI agents, Wed Nov 11 2026. No macro, syntax, notation, axiom, sorry.
-/
import Derived.Test.YthoebjekkfhhgaaGreatChecked
import GoSem.Claim
import GoSem.ClaimJoined
import GoSem.ClaimMapViews
import Derived.JoinedTies
import Derived.KernelRfl
namespace Go.Proofs.YthoebjekkfhhgaaGreat
/- THE CELL 'sum', in the pinned program and in every row, IS THE sha256 OF THE DUMP (.gsa) THAT YthoebjekkfhhgaaGreatProg.lean LOADS. Nothing in Lean hashes anything: it is a label: what it is worth is what the hold of that sum in a sandbox is worth. -/
noncomputable def Tryz.pinned : Pinned := { name := "ythoebjekkfhhgaagreat", sum := "e779a3da8a23e5a9a6c98924e6c4e74e51baade239f16f112c7a12bf1e8963f1", checked := Tryz.checked }
namespace Rows
def none {H : Type} : Left H := { results := [], args := [] }

/-- 'cofferlaw11.PackAll': WHATEVER THE INPUT: true; the input reads as it did. -/
def packAllSpec : ChangeSpec := { name := "packAll", fn := fun _ => fun
  | [d1, d2] => { results := [.lit (.bool true)], args := [d1, d2] }
  | _ => none }
def packAllRow : OpenClaim := { program := "ythoebjekkfhhgaagreat", sum := "e779a3da8a23e5a9a6c98924e6c4e74e51baade239f16f112c7a12bf1e8963f1", func := "coffer/cofferlaw11.PackAll", spec := "packAll", inPlace := ["maps.clone"], unfollowed := true, recurses := true, apart := false }
def PackAllSaid : Prop := packAllRow.holds Tryz.pinned (OpenSpec.ofChange packAllSpec)

/-- ITS FALSE NEIGHBOUR: 'it returns false'. Refute it at one input. -/
def packAllWrong : ChangeSpec := { name := "packAll", fn := fun _ => fun
  | [d1, d2] => { results := [.lit (.bool false)], args := [d1, d2] }
  | _ => none }
def PackAllWrongFalsely : Prop := packAllRow.holds Tryz.pinned (OpenSpec.ofChange packAllWrong)

/-- 'cofferlaw11.PackTold': WHATEVER THE INPUT: true; the input reads as it did. -/
def packToldSpec : ChangeSpec := { name := "packTold", fn := fun _ => fun
  | [d1, d2] => { results := [.lit (.bool true)], args := [d1, d2] }
  | _ => none }
def packToldRow : OpenClaim := { program := "ythoebjekkfhhgaagreat", sum := "e779a3da8a23e5a9a6c98924e6c4e74e51baade239f16f112c7a12bf1e8963f1", func := "coffer/cofferlaw11.PackTold", spec := "packTold", inPlace := ["maps.clone"], unfollowed := true, recurses := true, apart := false }
def PackToldSaid : Prop := packToldRow.holds Tryz.pinned (OpenSpec.ofChange packToldSpec)

/-- ITS FALSE NEIGHBOUR: 'it returns false'. Refute it at one input. -/
def packToldWrong : ChangeSpec := { name := "packTold", fn := fun _ => fun
  | [d1, d2] => { results := [.lit (.bool false)], args := [d1, d2] }
  | _ => none }
def PackToldWrongFalsely : Prop := packToldRow.holds Tryz.pinned (OpenSpec.ofChange packToldWrong)

/-- 'cofferlaw11.PackRoom': WHATEVER THE INPUT: true; the input reads as it did. -/
def packRoomSpec : ChangeSpec := { name := "packRoom", fn := fun _ => fun
  | [d1, d2] => { results := [.lit (.bool true)], args := [d1, d2] }
  | _ => none }
def packRoomRow : OpenClaim := { program := "ythoebjekkfhhgaagreat", sum := "e779a3da8a23e5a9a6c98924e6c4e74e51baade239f16f112c7a12bf1e8963f1", func := "coffer/cofferlaw11.PackRoom", spec := "packRoom", inPlace := ["maps.clone"], unfollowed := true, recurses := true, apart := false }
def PackRoomSaid : Prop := packRoomRow.holds Tryz.pinned (OpenSpec.ofChange packRoomSpec)

/-- ITS FALSE NEIGHBOUR: 'it returns false'. Refute it at one input. -/
def packRoomWrong : ChangeSpec := { name := "packRoom", fn := fun _ => fun
  | [d1, d2] => { results := [.lit (.bool false)], args := [d1, d2] }
  | _ => none }
def PackRoomWrongFalsely : Prop := packRoomRow.holds Tryz.pinned (OpenSpec.ofChange packRoomWrong)

/-- 'cofferlaw11.PackFull': WHATEVER THE INPUT: true; the input reads as it did. -/
def packFullSpec : ChangeSpec := { name := "packFull", fn := fun _ => fun
  | [d1, d2] => { results := [.lit (.bool true)], args := [d1, d2] }
  | _ => none }
def packFullRow : OpenClaim := { program := "ythoebjekkfhhgaagreat", sum := "e779a3da8a23e5a9a6c98924e6c4e74e51baade239f16f112c7a12bf1e8963f1", func := "coffer/cofferlaw11.PackFull", spec := "packFull", inPlace := ["maps.clone"], unfollowed := true, recurses := true, apart := false }
def PackFullSaid : Prop := packFullRow.holds Tryz.pinned (OpenSpec.ofChange packFullSpec)

/-- ITS FALSE NEIGHBOUR: 'it returns false'. Refute it at one input. -/
def packFullWrong : ChangeSpec := { name := "packFull", fn := fun _ => fun
  | [d1, d2] => { results := [.lit (.bool false)], args := [d1, d2] }
  | _ => none }
def PackFullWrongFalsely : Prop := packFullRow.holds Tryz.pinned (OpenSpec.ofChange packFullWrong)

/- THE SECOND FORM. 'bulk': how many values and letters a reading holds, each counted each time it is reached (what is shared counts as often as it is met; a slice's spare places count too). A statement '..UptoSaid' is the law's where the arguments, and the package variables that the reading takes, are together of bulk at most 1048576: NARROWER than '..Said'. Prove '..Said' where nothing that the law and all that it calls make is longer than what came in: it says more and counts as full. Else prove '..UptoSaid'. A law counts once. -/
mutual
def uptoBulk {H : Type} : DataW H → Nat
  | .lit (.string bytes) => bytes.length + 1
  | .lit _ => 1
  | .nil => 1
  | .ptr d => uptoBulk d + 1
  | .slice elems spare => uptoBulkAll elems + uptoBulkAll spare + 1
  | .agg parts => uptoBulkAll parts + 1
  | .iface _ d => uptoBulk d + 1
  | .map entries => uptoBulkEntries entries + 1
  | .held _ => 1
def uptoBulkAll {H : Type} : List (DataW H) → Nat
  | [] => 0
  | d :: r => uptoBulk d + uptoBulkAll r
def uptoBulkEntries {H : Type} : List (Lit × DataW H) → Nat
  | [] => 0
  | x :: r => uptoBulkEntry x + uptoBulkEntries r
def uptoBulkEntry {H : Type} : Lit × DataW H → Nat
  | (.string bytes, d) => bytes.length + uptoBulk d + 1
  | (_, d) => uptoBulk d + 1
 end
def uptoSmall : (H : Type) → List (DataW H) → Bool := fun _ ds => decide (uptoBulkAll ds ≤ 1048576)
def OpenSpec.upto (s : _root_.Go.ChangeSpec) : _root_.Go.OpenSpec := { _root_.Go.OpenSpec.ofChange s with cond := some uptoSmall }

/-- 'cofferlaw11.PackAll', WHERE WHAT IT READS IS OF BULK AT MOST 1048576: true; the input reads as it did. -/
def packAllUptoRow : OpenClaim := { program := "ythoebjekkfhhgaagreat", sum := "e779a3da8a23e5a9a6c98924e6c4e74e51baade239f16f112c7a12bf1e8963f1", func := "coffer/cofferlaw11.PackAll", spec := "packAll", inPlace := ["maps.clone"], unfollowed := true, recurses := true, apart := false, narrowed := true }
def PackAllUptoSaid : Prop := packAllUptoRow.holds Tryz.pinned (OpenSpec.upto packAllSpec)

/-- 'cofferlaw11.PackTold', WHERE WHAT IT READS IS OF BULK AT MOST 1048576: true; the input reads as it did. -/
def packToldUptoRow : OpenClaim := { program := "ythoebjekkfhhgaagreat", sum := "e779a3da8a23e5a9a6c98924e6c4e74e51baade239f16f112c7a12bf1e8963f1", func := "coffer/cofferlaw11.PackTold", spec := "packTold", inPlace := ["maps.clone"], unfollowed := true, recurses := true, apart := false, narrowed := true }
def PackToldUptoSaid : Prop := packToldUptoRow.holds Tryz.pinned (OpenSpec.upto packToldSpec)

/-- 'cofferlaw11.PackRoom', WHERE WHAT IT READS IS OF BULK AT MOST 1048576: true; the input reads as it did. -/
def packRoomUptoRow : OpenClaim := { program := "ythoebjekkfhhgaagreat", sum := "e779a3da8a23e5a9a6c98924e6c4e74e51baade239f16f112c7a12bf1e8963f1", func := "coffer/cofferlaw11.PackRoom", spec := "packRoom", inPlace := ["maps.clone"], unfollowed := true, recurses := true, apart := false, narrowed := true }
def PackRoomUptoSaid : Prop := packRoomUptoRow.holds Tryz.pinned (OpenSpec.upto packRoomSpec)

/-- 'cofferlaw11.PackFull', WHERE WHAT IT READS IS OF BULK AT MOST 1048576: true; the input reads as it did. -/
def packFullUptoRow : OpenClaim := { program := "ythoebjekkfhhgaagreat", sum := "e779a3da8a23e5a9a6c98924e6c4e74e51baade239f16f112c7a12bf1e8963f1", func := "coffer/cofferlaw11.PackFull", spec := "packFull", inPlace := ["maps.clone"], unfollowed := true, recurses := true, apart := false, narrowed := true }
def PackFullUptoSaid : Prop := packFullUptoRow.holds Tryz.pinned (OpenSpec.upto packFullSpec)

end Rows
end Go.Proofs.YthoebjekkfhhgaaGreat
