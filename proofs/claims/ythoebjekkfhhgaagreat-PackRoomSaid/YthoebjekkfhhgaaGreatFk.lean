/-
  Own work.
-/
import Derived.Test.YthoebjekkfhhgaaGreatFp
import Derived.Test.YthoebjekkfhhgaaGreatIi
import Derived.Test.YthoebjekkfhhgaaGreatG1
set_option linter.unusedVariables false
set_option linter.unusedSimpArgs false
namespace Go.Proofs.YthoebjekkfhhgaaGreat
open Go.RowKit
def RetTk (w : World) (t : TK) (e : Ending) (w' : World) : Prop :=
 ∃ A n c, e = .returned (.tuple #[.agg (cellsB t.key).toArray, .slice A n c, .int .i64 (t.n : Int), .int .i64 t.e]) /\ OwnB w' w.heap.size (.slice A n c) t.b /\ Below w.heap.size w w'
structure FK : Prop where
 size_any : ∀ w (n : Int), -9223372036854775808 <= n /\ n <= 9223372036854775807 -> Calls Tryz.prog 93 #[.int .i64 n] w fun e w' => e = .returned (.int .i64 (fsz n)) /\ Below w.heap.size w w'
 put_any : ∀ w (A : Option Addr) (n c : Nat) (key l : List UInt8), HasB w w.heap.size A n l -> n <= c -> c <= maxLen -> n <= 1073741824 -> key.length = 32 -> Calls Tryz.prog 81 #[.agg (cellsB key).toArray, .slice A n c] w (RetBE w (fputL key l) (fputE l))
 take_any : ∀ w (A : Option Addr) (n c : Nat) (l : List UInt8), HasB w w.heap.size A n l -> n <= c -> c <= maxLen -> n <= 1073741824 -> Calls Tryz.prog 65 #[.slice A n c] w (RetTk w (ftake l))
theorem fputE_ok {l : List UInt8} (h : l.length <= 4200) : fputE l = 0 := if_pos h
theorem fputL_ok {key l : List UInt8} (h : l.length <= 4200) : fputL key l = frmL key l := if_pos h
theorem ftake_len (l : List UInt8) : (ftake l).key.length = 32 /\ (ftake l).b.length <= 4200 /\ (ftake l).n <= 4246 := by
 rcases ftake_cases l with ⟨_, h⟩ | ⟨_, h1, h2, h3, _⟩
 · rw [h]
   exact ⟨rfl, by simp [TK.no], by simp [TK.no]⟩
 · exact ⟨h1, h2, by omega⟩
end Go.Proofs.YthoebjekkfhhgaaGreat
