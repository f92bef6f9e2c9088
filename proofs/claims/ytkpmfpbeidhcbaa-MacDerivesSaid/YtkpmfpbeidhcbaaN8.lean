/-
  Own work. Numbers in eight bytes: mac's and the document's answer's.
-/
import Derived.Test.YtkpmfpbeidhcbaaRp
namespace Go.Proofs.Ytkpmfpbeidhcbaa
open Go.RowKit
set_option linter.unusedVariables false
set_option linter.unusedSimpArgs false

theorem num8_any (v : Nat) (w : World) (hv : v < 18446744073709551616) :
    Calls Try.prog 27 #[.int .u64 (v : Int)] w (RetB w (be 8 v)) := by
  have CP := put_ok none [] 0 0 v 8 w (HasB.nil _ _ _) (by omega) hv (by omega) (by omega) (by omega)
  rw [List.nil_append] at CP
  have HC := Lib.hid CP
  clear CP
  go_enter Try.func27, Try.ntmps27
  go_wp2_with (go_at_call 36; refine HC.out.mono ?_; rintro e w1 ⟨A, n, c, rfl, hown, hb⟩)
  go_ret
  exact ⟨A, n, c, rfl, hown, hb⟩

theorem eight_any (v : Nat) (w : World) (hv : v < 18446744073709551616) :
    Calls Try.prog 19 #[.int .u64 (v : Int)] w (RetB w (be 8 v)) := by
  have CP := rput_any none [] 0 0 v 8 w (HasB.nil _ _ _) (by omega) hv (by omega)
  have e0 : putE v 8 = 0 := by unfold putE; rw [if_pos (by omega), if_pos (by show v < 256 ^ 8; omega)]
  have e1 : putL [] v 8 = be 8 v := by unfold putL; rw [if_pos e0]; rfl
  rw [e0, e1] at CP
  have HC := Lib.hid CP
  clear CP e0 e1
  go_enter Try.func19, Try.ntmps19
  go_wp2_with (go_at_call 30; refine HC.out.mono ?_; rintro e w1 ⟨A, n, c, rfl, hown, hb⟩)
  go_ret
  exact ⟨A, n, c, rfl, hown, hb⟩
end Go.Proofs.Ytkpmfpbeidhcbaa
