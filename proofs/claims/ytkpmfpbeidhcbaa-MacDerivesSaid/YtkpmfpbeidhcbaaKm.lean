/-
  Own work. The sum of 'Hi There' under twenty bytes 0b begins with b0 34, reckoned by the kernel.
-/
import Derived.Test.YtkpmfpbeidhcbaaRw
namespace Go.Proofs.Ytkpmfpbeidhcbaa
open Go.RowKit
def hiL : List UInt8 := [72, 105, 32, 84, 104, 101, 114, 101]
def keyB : List UInt8 := List.replicate 20 11
theorem hi_sum : (macS keyB hiL).take 2 = [0xb0, 0x34] := by kernel_rfl
end Go.Proofs.Ytkpmfpbeidhcbaa
