/-
  No cell of these rows narrows 'for every input' (looked for: loops, veiled, ifaces, maps, wideKeys, modest, calm, conditions, laid).
  DERIVED. THE GIVEN ROWS OF THIS SEAT. 11 by the template 'for every input the law returns true; each argument reads behind the call as it read before'; 0 by the template 'total and deterministic' (their statements: YtjpicaofgiagdaaGreatTotals.lean).
  GIVEN WITH THE SEED: the statements are not yours to turn. If you find one false, say at which input.
  Laid BY PROGRAM, IN A SANDBOX (cutbox-rows.mjs): the forced cells as the released guide's own fill.sh prints them over the translation 684bfe32200b98d2… (all of the seat's roots in one cut). By AI agents, Wed Nov 11 2026. No macro, syntax, notation, axiom, sorry.
-/
import Derived.Test.YtjpicaofgiagdaaGreatChecked
import GoSem.Claim
import GoSem.ClaimJoined
import GoSem.ClaimMapViews
import Derived.JoinedTies
import Derived.KernelRfl
namespace Go.Proofs.YtjpicaofgiagdaaGreat
/- THE CELL 'sum', in the pinned program and in every row, IS THE sha256 OF THE DUMP (.gsa) THAT YtjpicaofgiagdaaGreatProg.lean LOADS. Nothing in Lean hashes anything: it is a label: what it is worth is what the hold of that sum in a sandbox is worth. -/
noncomputable def Tryz.pinned : Pinned := { name := "ytjpicaofgiagdaagreat", sum := "684bfe32200b98d22f210f3eecfcacc40a70d2b3a5d3b6a02bd926f50c368f5e", checked := Tryz.checked }
namespace Rows
def none {H : Type} : Left H := { results := [], args := [] }

/-- 'cofferlaw8.SpaceAll': WHATEVER THE INPUT: true; the input reads as it did. -/
def spaceAllSpec : ChangeSpec := { name := "spaceAll", fn := fun _ => fun
  | [d1, d2] => { results := [.lit (.bool true)], args := [d1, d2] }
  | _ => none }
def spaceAllRow : OpenClaim := { program := "ytjpicaofgiagdaagreat", sum := "684bfe32200b98d22f210f3eecfcacc40a70d2b3a5d3b6a02bd926f50c368f5e", func := "coffer/cofferlaw8.SpaceAll", spec := "spaceAll", inPlace := ["maps.clone"], unfollowed := true, recurses := true, apart := false }
def SpaceAllSaid : Prop := spaceAllRow.holds Tryz.pinned (OpenSpec.ofChange spaceAllSpec)

/-- ITS FALSE NEIGHBOUR: 'it returns false'. Refute it at one input. -/
def spaceAllWrong : ChangeSpec := { name := "spaceAll", fn := fun _ => fun
  | [d1, d2] => { results := [.lit (.bool false)], args := [d1, d2] }
  | _ => none }
def SpaceAllWrongFalsely : Prop := spaceAllRow.holds Tryz.pinned (OpenSpec.ofChange spaceAllWrong)

/-- 'cofferlaw7.TxnAll': WHATEVER THE INPUT: true; the input reads as it did. -/
def txnAllSpec : ChangeSpec := { name := "txnAll", fn := fun _ => fun
  | [d] => { results := [.lit (.bool true)], args := [d] }
  | _ => none }
def txnAllRow : OpenClaim := { program := "ytjpicaofgiagdaagreat", sum := "684bfe32200b98d22f210f3eecfcacc40a70d2b3a5d3b6a02bd926f50c368f5e", func := "coffer/cofferlaw7.TxnAll", spec := "txnAll", inPlace := ["maps.clone"], unfollowed := true, recurses := true, apart := false }
def TxnAllSaid : Prop := txnAllRow.holds Tryz.pinned (OpenSpec.ofChange txnAllSpec)

/-- ITS FALSE NEIGHBOUR: 'it returns false'. Refute it at one input. -/
def txnAllWrong : ChangeSpec := { name := "txnAll", fn := fun _ => fun
  | [d] => { results := [.lit (.bool false)], args := [d] }
  | _ => none }
def TxnAllWrongFalsely : Prop := txnAllRow.holds Tryz.pinned (OpenSpec.ofChange txnAllWrong)

/-- 'cofferlaw11.PackAll': WHATEVER THE INPUT: true; the input reads as it did. -/
def packAllSpec : ChangeSpec := { name := "packAll", fn := fun _ => fun
  | [d1, d2] => { results := [.lit (.bool true)], args := [d1, d2] }
  | _ => none }
def packAllRow : OpenClaim := { program := "ytjpicaofgiagdaagreat", sum := "684bfe32200b98d22f210f3eecfcacc40a70d2b3a5d3b6a02bd926f50c368f5e", func := "coffer/cofferlaw11.PackAll", spec := "packAll", inPlace := ["maps.clone"], unfollowed := true, recurses := true, apart := false }
def PackAllSaid : Prop := packAllRow.holds Tryz.pinned (OpenSpec.ofChange packAllSpec)

/-- ITS FALSE NEIGHBOUR: 'it returns false'. Refute it at one input. -/
def packAllWrong : ChangeSpec := { name := "packAll", fn := fun _ => fun
  | [d1, d2] => { results := [.lit (.bool false)], args := [d1, d2] }
  | _ => none }
def PackAllWrongFalsely : Prop := packAllRow.holds Tryz.pinned (OpenSpec.ofChange packAllWrong)

/-- 'cofferlaw11.PackTold': WHATEVER THE INPUT: true; the input reads as it did. -/
def packToldSpec : ChangeSpec := { name := "packTold", fn := fun _ => fun
  | [d1, d2] => { results := [.lit (.bool true)], args := [d1, d2] }
  | _ => none }
def packToldRow : OpenClaim := { program := "ytjpicaofgiagdaagreat", sum := "684bfe32200b98d22f210f3eecfcacc40a70d2b3a5d3b6a02bd926f50c368f5e", func := "coffer/cofferlaw11.PackTold", spec := "packTold", inPlace := ["maps.clone"], unfollowed := true, recurses := true, apart := false }
def PackToldSaid : Prop := packToldRow.holds Tryz.pinned (OpenSpec.ofChange packToldSpec)

/-- ITS FALSE NEIGHBOUR: 'it returns false'. Refute it at one input. -/
def packToldWrong : ChangeSpec := { name := "packTold", fn := fun _ => fun
  | [d1, d2] => { results := [.lit (.bool false)], args := [d1, d2] }
  | _ => none }
def PackToldWrongFalsely : Prop := packToldRow.holds Tryz.pinned (OpenSpec.ofChange packToldWrong)

/-- 'cofferlaw11.PackRoom': WHATEVER THE INPUT: true; the input reads as it did. -/
def packRoomSpec : ChangeSpec := { name := "packRoom", fn := fun _ => fun
  | [d1, d2] => { results := [.lit (.bool true)], args := [d1, d2] }
  | _ => none }
def packRoomRow : OpenClaim := { program := "ytjpicaofgiagdaagreat", sum := "684bfe32200b98d22f210f3eecfcacc40a70d2b3a5d3b6a02bd926f50c368f5e", func := "coffer/cofferlaw11.PackRoom", spec := "packRoom", inPlace := ["maps.clone"], unfollowed := true, recurses := true, apart := false }
def PackRoomSaid : Prop := packRoomRow.holds Tryz.pinned (OpenSpec.ofChange packRoomSpec)

/-- ITS FALSE NEIGHBOUR: 'it returns false'. Refute it at one input. -/
def packRoomWrong : ChangeSpec := { name := "packRoom", fn := fun _ => fun
  | [d1, d2] => { results := [.lit (.bool false)], args := [d1, d2] }
  | _ => none }
def PackRoomWrongFalsely : Prop := packRoomRow.holds Tryz.pinned (OpenSpec.ofChange packRoomWrong)

/-- 'cofferlaw11.PackFull': WHATEVER THE INPUT: true; the input reads as it did. -/
def packFullSpec : ChangeSpec := { name := "packFull", fn := fun _ => fun
  | [d1, d2] => { results := [.lit (.bool true)], args := [d1, d2] }
  | _ => none }
def packFullRow : OpenClaim := { program := "ytjpicaofgiagdaagreat", sum := "684bfe32200b98d22f210f3eecfcacc40a70d2b3a5d3b6a02bd926f50c368f5e", func := "coffer/cofferlaw11.PackFull", spec := "packFull", inPlace := ["maps.clone"], unfollowed := true, recurses := true, apart := false }
def PackFullSaid : Prop := packFullRow.holds Tryz.pinned (OpenSpec.ofChange packFullSpec)

/-- ITS FALSE NEIGHBOUR: 'it returns false'. Refute it at one input. -/
def packFullWrong : ChangeSpec := { name := "packFull", fn := fun _ => fun
  | [d1, d2] => { results := [.lit (.bool false)], args := [d1, d2] }
  | _ => none }
def PackFullWrongFalsely : Prop := packFullRow.holds Tryz.pinned (OpenSpec.ofChange packFullWrong)

/-- 'cofferlaw9.TreeAll': WHATEVER THE INPUT: true; the input reads as it did. -/
def treeAllSpec : ChangeSpec := { name := "treeAll", fn := fun _ => fun
  | [d] => { results := [.lit (.bool true)], args := [d] }
  | _ => none }
def treeAllRow : OpenClaim := { program := "ytjpicaofgiagdaagreat", sum := "684bfe32200b98d22f210f3eecfcacc40a70d2b3a5d3b6a02bd926f50c368f5e", func := "coffer/cofferlaw9.TreeAll", spec := "treeAll", inPlace := ["maps.clone", "slices.overlaps[coffer/api.ID]", "slices.overlaps[coffer/api.Val]", "slices.overlaps[uint32]"], unfollowed := true, recurses := true, apart := false }
def TreeAllSaid : Prop := treeAllRow.holds Tryz.pinned (OpenSpec.ofChange treeAllSpec)

/-- ITS FALSE NEIGHBOUR: 'it returns false'. Refute it at one input. -/
def treeAllWrong : ChangeSpec := { name := "treeAll", fn := fun _ => fun
  | [d] => { results := [.lit (.bool false)], args := [d] }
  | _ => none }
def TreeAllWrongFalsely : Prop := treeAllRow.holds Tryz.pinned (OpenSpec.ofChange treeAllWrong)

/-- 'cofferlaw9.TreeShape': WHATEVER THE INPUT: true; the input reads as it did. -/
def treeShapeSpec : ChangeSpec := { name := "treeShape", fn := fun _ => fun
  | [d1, d2] => { results := [.lit (.bool true)], args := [d1, d2] }
  | _ => none }
def treeShapeRow : OpenClaim := { program := "ytjpicaofgiagdaagreat", sum := "684bfe32200b98d22f210f3eecfcacc40a70d2b3a5d3b6a02bd926f50c368f5e", func := "coffer/cofferlaw9.TreeShape", spec := "treeShape", inPlace := ["maps.clone", "slices.overlaps[coffer/api.ID]", "slices.overlaps[coffer/api.Val]", "slices.overlaps[uint32]"], unfollowed := true, recurses := true, apart := false }
def TreeShapeSaid : Prop := treeShapeRow.holds Tryz.pinned (OpenSpec.ofChange treeShapeSpec)

/-- ITS FALSE NEIGHBOUR: 'it returns false'. Refute it at one input. -/
def treeShapeWrong : ChangeSpec := { name := "treeShape", fn := fun _ => fun
  | [d1, d2] => { results := [.lit (.bool false)], args := [d1, d2] }
  | _ => none }
def TreeShapeWrongFalsely : Prop := treeShapeRow.holds Tryz.pinned (OpenSpec.ofChange treeShapeWrong)

/-- 'cofferlaw9.TreeDeep': WHATEVER THE INPUT: true; the input reads as it did. -/
def treeDeepSpec : ChangeSpec := { name := "treeDeep", fn := fun _ => fun
  | [d1, d2] => { results := [.lit (.bool true)], args := [d1, d2] }
  | _ => none }
def treeDeepRow : OpenClaim := { program := "ytjpicaofgiagdaagreat", sum := "684bfe32200b98d22f210f3eecfcacc40a70d2b3a5d3b6a02bd926f50c368f5e", func := "coffer/cofferlaw9.TreeDeep", spec := "treeDeep", inPlace := ["maps.clone", "slices.overlaps[coffer/api.ID]", "slices.overlaps[coffer/api.Val]", "slices.overlaps[uint32]"], unfollowed := true, recurses := true, apart := false }
def TreeDeepSaid : Prop := treeDeepRow.holds Tryz.pinned (OpenSpec.ofChange treeDeepSpec)

/-- ITS FALSE NEIGHBOUR: 'it returns false'. Refute it at one input. -/
def treeDeepWrong : ChangeSpec := { name := "treeDeep", fn := fun _ => fun
  | [d1, d2] => { results := [.lit (.bool false)], args := [d1, d2] }
  | _ => none }
def TreeDeepWrongFalsely : Prop := treeDeepRow.holds Tryz.pinned (OpenSpec.ofChange treeDeepWrong)

/-- 'cofferlaw9.TreeOne': WHATEVER THE INPUT: true; the input reads as it did. -/
def treeOneSpec : ChangeSpec := { name := "treeOne", fn := fun _ => fun
  | [d1, d2, d3] => { results := [.lit (.bool true)], args := [d1, d2, d3] }
  | _ => none }
def treeOneRow : OpenClaim := { program := "ytjpicaofgiagdaagreat", sum := "684bfe32200b98d22f210f3eecfcacc40a70d2b3a5d3b6a02bd926f50c368f5e", func := "coffer/cofferlaw9.TreeOne", spec := "treeOne", inPlace := ["maps.clone", "slices.overlaps[coffer/api.ID]", "slices.overlaps[coffer/api.Val]", "slices.overlaps[uint32]"], unfollowed := true, recurses := true, apart := false }
def TreeOneSaid : Prop := treeOneRow.holds Tryz.pinned (OpenSpec.ofChange treeOneSpec)

/-- ITS FALSE NEIGHBOUR: 'it returns false'. Refute it at one input. -/
def treeOneWrong : ChangeSpec := { name := "treeOne", fn := fun _ => fun
  | [d1, d2, d3] => { results := [.lit (.bool false)], args := [d1, d2, d3] }
  | _ => none }
def TreeOneWrongFalsely : Prop := treeOneRow.holds Tryz.pinned (OpenSpec.ofChange treeOneWrong)

/-- 'cofferlaw9.TreeScans': WHATEVER THE INPUT: true; the input reads as it did. -/
def treeScansSpec : ChangeSpec := { name := "treeScans", fn := fun _ => fun
  | [d1, d2] => { results := [.lit (.bool true)], args := [d1, d2] }
  | _ => none }
def treeScansRow : OpenClaim := { program := "ytjpicaofgiagdaagreat", sum := "684bfe32200b98d22f210f3eecfcacc40a70d2b3a5d3b6a02bd926f50c368f5e", func := "coffer/cofferlaw9.TreeScans", spec := "treeScans", inPlace := ["maps.clone", "slices.overlaps[coffer/api.ID]", "slices.overlaps[coffer/api.Val]", "slices.overlaps[uint32]"], unfollowed := true, recurses := true, apart := false }
def TreeScansSaid : Prop := treeScansRow.holds Tryz.pinned (OpenSpec.ofChange treeScansSpec)

/-- ITS FALSE NEIGHBOUR: 'it returns false'. Refute it at one input. -/
def treeScansWrong : ChangeSpec := { name := "treeScans", fn := fun _ => fun
  | [d1, d2] => { results := [.lit (.bool false)], args := [d1, d2] }
  | _ => none }
def TreeScansWrongFalsely : Prop := treeScansRow.holds Tryz.pinned (OpenSpec.ofChange treeScansWrong)

/- THE SECOND FORM. 'bulk': how many values and letters a reading holds, each counted each time it is reached (what is shared counts as often as it is met; a slice's spare places count too). A statement '..UptoSaid' is the law's where the arguments, and the package variables that the reading takes, are together of bulk at most 1048576: NARROWER than '..Said'. Prove '..Said' where nothing that the law and all that it calls make is longer than what came in: it says more and counts as full. Else prove '..UptoSaid'. A law counts once. -/
mutual
def uptoBulk {H : Type} : DataW H → Nat
  | .lit (.string bytes) => bytes.length + 1
  | .lit _ => 1
  | .nil => 1
  | .ptr d => uptoBulk d + 1
  | .slice elems spare => uptoBulkAll elems + uptoBulkAll spare + 1
  | .agg parts => uptoBulkAll parts + 1
  | .iface _ d => uptoBulk d + 1
  | .map entries => uptoBulkEntries entries + 1
  | .held _ => 1
def uptoBulkAll {H : Type} : List (DataW H) → Nat
  | [] => 0
  | d :: r => uptoBulk d + uptoBulkAll r
def uptoBulkEntries {H : Type} : List (Lit × DataW H) → Nat
  | [] => 0
  | x :: r => uptoBulkEntry x + uptoBulkEntries r
def uptoBulkEntry {H : Type} : Lit × DataW H → Nat
  | (.string bytes, d) => bytes.length + uptoBulk d + 1
  | (_, d) => uptoBulk d + 1
 end
def uptoSmall : (H : Type) → List (DataW H) → Bool := fun _ ds => decide (uptoBulkAll ds ≤ 1048576)
def OpenSpec.upto (s : _root_.Go.ChangeSpec) : _root_.Go.OpenSpec := { _root_.Go.OpenSpec.ofChange s with cond := some uptoSmall }

/-- 'cofferlaw8.SpaceAll', WHERE WHAT IT READS IS OF BULK AT MOST 1048576: true; the input reads as it did. -/
def spaceAllUptoRow : OpenClaim := { program := "ytjpicaofgiagdaagreat", sum := "684bfe32200b98d22f210f3eecfcacc40a70d2b3a5d3b6a02bd926f50c368f5e", func := "coffer/cofferlaw8.SpaceAll", spec := "spaceAll", inPlace := ["maps.clone"], unfollowed := true, recurses := true, apart := false, narrowed := true }
def SpaceAllUptoSaid : Prop := spaceAllUptoRow.holds Tryz.pinned (OpenSpec.upto spaceAllSpec)

/-- 'cofferlaw7.TxnAll', WHERE WHAT IT READS IS OF BULK AT MOST 1048576: true; the input reads as it did. -/
def txnAllUptoRow : OpenClaim := { program := "ytjpicaofgiagdaagreat", sum := "684bfe32200b98d22f210f3eecfcacc40a70d2b3a5d3b6a02bd926f50c368f5e", func := "coffer/cofferlaw7.TxnAll", spec := "txnAll", inPlace := ["maps.clone"], unfollowed := true, recurses := true, apart := false, narrowed := true }
def TxnAllUptoSaid : Prop := txnAllUptoRow.holds Tryz.pinned (OpenSpec.upto txnAllSpec)

/-- 'cofferlaw11.PackAll', WHERE WHAT IT READS IS OF BULK AT MOST 1048576: true; the input reads as it did. -/
def packAllUptoRow : OpenClaim := { program := "ytjpicaofgiagdaagreat", sum := "684bfe32200b98d22f210f3eecfcacc40a70d2b3a5d3b6a02bd926f50c368f5e", func := "coffer/cofferlaw11.PackAll", spec := "packAll", inPlace := ["maps.clone"], unfollowed := true, recurses := true, apart := false, narrowed := true }
def PackAllUptoSaid : Prop := packAllUptoRow.holds Tryz.pinned (OpenSpec.upto packAllSpec)

/-- 'cofferlaw11.PackTold', WHERE WHAT IT READS IS OF BULK AT MOST 1048576: true; the input reads as it did. -/
def packToldUptoRow : OpenClaim := { program := "ytjpicaofgiagdaagreat", sum := "684bfe32200b98d22f210f3eecfcacc40a70d2b3a5d3b6a02bd926f50c368f5e", func := "coffer/cofferlaw11.PackTold", spec := "packTold", inPlace := ["maps.clone"], unfollowed := true, recurses := true, apart := false, narrowed := true }
def PackToldUptoSaid : Prop := packToldUptoRow.holds Tryz.pinned (OpenSpec.upto packToldSpec)

/-- 'cofferlaw11.PackRoom', WHERE WHAT IT READS IS OF BULK AT MOST 1048576: true; the input reads as it did. -/
def packRoomUptoRow : OpenClaim := { program := "ytjpicaofgiagdaagreat", sum := "684bfe32200b98d22f210f3eecfcacc40a70d2b3a5d3b6a02bd926f50c368f5e", func := "coffer/cofferlaw11.PackRoom", spec := "packRoom", inPlace := ["maps.clone"], unfollowed := true, recurses := true, apart := false, narrowed := true }
def PackRoomUptoSaid : Prop := packRoomUptoRow.holds Tryz.pinned (OpenSpec.upto packRoomSpec)

/-- 'cofferlaw11.PackFull', WHERE WHAT IT READS IS OF BULK AT MOST 1048576: true; the input reads as it did. -/
def packFullUptoRow : OpenClaim := { program := "ytjpicaofgiagdaagreat", sum := "684bfe32200b98d22f210f3eecfcacc40a70d2b3a5d3b6a02bd926f50c368f5e", func := "coffer/cofferlaw11.PackFull", spec := "packFull", inPlace := ["maps.clone"], unfollowed := true, recurses := true, apart := false, narrowed := true }
def PackFullUptoSaid : Prop := packFullUptoRow.holds Tryz.pinned (OpenSpec.upto packFullSpec)

/-- 'cofferlaw9.TreeAll', WHERE WHAT IT READS IS OF BULK AT MOST 1048576: true; the input reads as it did. -/
def treeAllUptoRow : OpenClaim := { program := "ytjpicaofgiagdaagreat", sum := "684bfe32200b98d22f210f3eecfcacc40a70d2b3a5d3b6a02bd926f50c368f5e", func := "coffer/cofferlaw9.TreeAll", spec := "treeAll", inPlace := ["maps.clone", "slices.overlaps[coffer/api.ID]", "slices.overlaps[coffer/api.Val]", "slices.overlaps[uint32]"], unfollowed := true, recurses := true, apart := false, narrowed := true }
def TreeAllUptoSaid : Prop := treeAllUptoRow.holds Tryz.pinned (OpenSpec.upto treeAllSpec)

/-- 'cofferlaw9.TreeShape', WHERE WHAT IT READS IS OF BULK AT MOST 1048576: true; the input reads as it did. -/
def treeShapeUptoRow : OpenClaim := { program := "ytjpicaofgiagdaagreat", sum := "684bfe32200b98d22f210f3eecfcacc40a70d2b3a5d3b6a02bd926f50c368f5e", func := "coffer/cofferlaw9.TreeShape", spec := "treeShape", inPlace := ["maps.clone", "slices.overlaps[coffer/api.ID]", "slices.overlaps[coffer/api.Val]", "slices.overlaps[uint32]"], unfollowed := true, recurses := true, apart := false, narrowed := true }
def TreeShapeUptoSaid : Prop := treeShapeUptoRow.holds Tryz.pinned (OpenSpec.upto treeShapeSpec)

/-- 'cofferlaw9.TreeDeep', WHERE WHAT IT READS IS OF BULK AT MOST 1048576: true; the input reads as it did. -/
def treeDeepUptoRow : OpenClaim := { program := "ytjpicaofgiagdaagreat", sum := "684bfe32200b98d22f210f3eecfcacc40a70d2b3a5d3b6a02bd926f50c368f5e", func := "coffer/cofferlaw9.TreeDeep", spec := "treeDeep", inPlace := ["maps.clone", "slices.overlaps[coffer/api.ID]", "slices.overlaps[coffer/api.Val]", "slices.overlaps[uint32]"], unfollowed := true, recurses := true, apart := false, narrowed := true }
def TreeDeepUptoSaid : Prop := treeDeepUptoRow.holds Tryz.pinned (OpenSpec.upto treeDeepSpec)

/-- 'cofferlaw9.TreeOne', WHERE WHAT IT READS IS OF BULK AT MOST 1048576: true; the input reads as it did. -/
def treeOneUptoRow : OpenClaim := { program := "ytjpicaofgiagdaagreat", sum := "684bfe32200b98d22f210f3eecfcacc40a70d2b3a5d3b6a02bd926f50c368f5e", func := "coffer/cofferlaw9.TreeOne", spec := "treeOne", inPlace := ["maps.clone", "slices.overlaps[coffer/api.ID]", "slices.overlaps[coffer/api.Val]", "slices.overlaps[uint32]"], unfollowed := true, recurses := true, apart := false, narrowed := true }
def TreeOneUptoSaid : Prop := treeOneUptoRow.holds Tryz.pinned (OpenSpec.upto treeOneSpec)

/-- 'cofferlaw9.TreeScans', WHERE WHAT IT READS IS OF BULK AT MOST 1048576: true; the input reads as it did. -/
def treeScansUptoRow : OpenClaim := { program := "ytjpicaofgiagdaagreat", sum := "684bfe32200b98d22f210f3eecfcacc40a70d2b3a5d3b6a02bd926f50c368f5e", func := "coffer/cofferlaw9.TreeScans", spec := "treeScans", inPlace := ["maps.clone", "slices.overlaps[coffer/api.ID]", "slices.overlaps[coffer/api.Val]", "slices.overlaps[uint32]"], unfollowed := true, recurses := true, apart := false, narrowed := true }
def TreeScansUptoSaid : Prop := treeScansUptoRow.holds Tryz.pinned (OpenSpec.upto treeScansSpec)

end Rows
end Go.Proofs.YtjpicaofgiagdaaGreat
