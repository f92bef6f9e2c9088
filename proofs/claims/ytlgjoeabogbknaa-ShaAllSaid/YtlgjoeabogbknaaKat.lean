/-
  Own work. The sum of 'abc' begins with ba 78, reckoned by the kernel.
-/
import Derived.Test.YtlgjoeabogbknaaPd
namespace Go.Proofs.Ytlgjoeabogbknaa
open Go.RowKit
theorem abc_sum : (sumS [97, 98, 99]).take 2 = [0xba, 0x78] := by kernel_rfl
end Go.Proofs.Ytlgjoeabogbknaa
