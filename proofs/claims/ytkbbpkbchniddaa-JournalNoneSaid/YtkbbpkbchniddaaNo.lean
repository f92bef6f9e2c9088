/-
  Own work. What a disk that is none answers: Read, Len, Lives.
-/
import Derived.Test.YtkbbpkbchniddaaPk
import Derived.Test.YtkbbpkbchniddaaQb
namespace Go.Proofs.Ytkbbpkbchniddaa
open Go.RowKit Go.Maps
set_option linter.unusedVariables false
set_option linter.unusedSimpArgs false

def NoDisk (w : World) (p : Option Addr) : Prop := p = none ∨ ∃ g, p = some ⟨g, 0, none⟩ ∧ w.cell? ⟨g, 0, none⟩ = some (.slice none 0 0)
theorem NoDisk.below {w w' : World} {p : Option Addr} {B : Nat} (h : NoDisk w p) (hp : ∀ g o s, p = some ⟨g, o, s⟩ → g < B) (hb : Below B w w') : NoDisk w' p := by
  rcases h with h | ⟨g, rfl, hc⟩
  · exact .inl h
  · exact .inr ⟨g, rfl, (hb.cell (p := ⟨g, 0, none⟩) (hp g 0 none rfl)).trans hc⟩
section
variable {w : World} {p : Option Addr}
set_option maxRecDepth 100000 in
theorem none_isNone (h : NoDisk w p) : Calls Try.prog 55 #[.pointer p] w (RetV w (.bool true)) := by
  rcases h with rfl | ⟨g, rfl, hc⟩
  · exact pnone_nil w
  · go_enter Try.func55, Try.ntmps55
    go_wp2_with fail
    go_ret
    exact ⟨rfl, rfl⟩
set_option maxRecDepth 100000 in
theorem none_power_chk (h : NoDisk w p) : Calls Try.prog 91 #[.pointer p] w (RetV w (.int .i64 1)) := by
  have N := Lib.hid (none_isNone h)
  clear h
  go_enter Try.func91, Try.ntmps91
  go_wp2_with (go_at_call 55; refine N.out.mono ?_; rintro e w1 ⟨rfl, rfl⟩)
  go_ret
  exact ⟨rfl, rfl⟩
set_option maxRecDepth 100000 in
theorem none_check (i : Int) (h : NoDisk w p) : Calls Try.prog 93 #[.pointer p, .int .i64 i] w (RetV w (.int .i64 1)) := by
  have N := Lib.hid (none_power_chk h)
  clear h
  go_enter Try.func93, Try.ntmps93
  go_wp2_with (go_at_call 91; refine N.out.mono ?_; rintro e w1 ⟨rfl, rfl⟩)
  go_ret
  exact ⟨rfl, rfl⟩
set_option maxRecDepth 100000 in
theorem none_read (i : Int) (h : NoDisk w p) : Calls Try.prog 84 #[.pointer p, .int .i64 i] w (RetV w (.tuple #[.slice none 0 0, .int .i64 1])) := by
  have N := Lib.hid (none_check i h)
  clear h
  go_enter Try.func84, Try.ntmps84
  go_wp2_with (go_at_call 93; refine N.out.mono ?_; rintro e w1 ⟨rfl, rfl⟩)
  go_ret2
  exact ⟨rfl, rfl⟩
set_option maxRecDepth 100000 in
theorem none_len (h : NoDisk w p) : Calls Try.prog 47 #[.pointer p] w (RetV w (.int .i64 0)) := by
  have N := Lib.hid (none_isNone h)
  clear h
  go_enter Try.func47, Try.ntmps47
  go_wp2_with (go_at_call 55; refine N.out.mono ?_; rintro e w1 ⟨rfl, rfl⟩)
  go_ret
  exact ⟨rfl, rfl⟩
set_option maxRecDepth 100000 in
theorem none_lives (h : NoDisk w p) : Calls Try.prog 51 #[.pointer p] w (RetV w (.int .i64 0)) := by
  have N := Lib.hid (none_isNone h)
  clear h
  go_enter Try.func51, Try.ntmps51
  go_wp2_with (go_at_call 55; refine N.out.mono ?_; rintro e w1 ⟨rfl, rfl⟩)
  go_ret
  exact ⟨rfl, rfl⟩
end
end Go.Proofs.Ytkbbpkbchniddaa
