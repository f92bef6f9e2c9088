/-
  Own work. What a disk that is none answers: Read, Len, Lives.
-/
import Derived.Test.YthfmkdeglceppaaG5
import Derived.Test.YthfmkdeglceppaaQb
namespace Go.Proofs.Ythfmkdeglceppaa
open Go.RowKit Go.Maps
set_option linter.unusedVariables false
set_option linter.unusedSimpArgs false

def NoDisk (w : World) (p : Option Addr) : Prop := p = none ∨ ∃ g, p = some ⟨g, 0, none⟩ ∧ w.cell? ⟨g, 0, none⟩ = some (.slice none 0 0)
theorem NoDisk.below {w w' : World} {p : Option Addr} {B : Nat} (h : NoDisk w p) (hp : ∀ g o s, p = some ⟨g, o, s⟩ → g < B) (hb : Below B w w') : NoDisk w' p := by
  rcases h with h | ⟨g, rfl, hc⟩
  · exact .inl h
  · exact .inr ⟨g, rfl, (hb.cell (p := ⟨g, 0, none⟩) (hp g 0 none rfl)).trans hc⟩
section
variable {w : World} {p : Option Addr}
set_option maxRecDepth 100000 in
theorem none_isNone (h : NoDisk w p) : Calls Try.prog 49 #[.pointer p] w (RetV w (.bool true)) := by
  rcases h with rfl | ⟨g, rfl, hc⟩
  · exact pnone_nil w
  · go_enter Try.func49, Try.ntmps49
    go_wp2_with fail
    go_ret
    exact ⟨rfl, rfl⟩
set_option maxRecDepth 100000 in
theorem none_power_chk (h : NoDisk w p) : Calls Try.prog 83 #[.pointer p] w (RetV w (.int .i64 1)) := by
  have N := Lib.hid (none_isNone h)
  clear h
  go_enter Try.func83, Try.ntmps83
  go_wp2_with (go_at_call 49; refine N.out.mono ?_; rintro e w1 ⟨rfl, rfl⟩)
  go_ret
  exact ⟨rfl, rfl⟩
set_option maxRecDepth 100000 in
theorem none_check (i : Int) (h : NoDisk w p) : Calls Try.prog 85 #[.pointer p, .int .i64 i] w (RetV w (.int .i64 1)) := by
  have N := Lib.hid (none_power_chk h)
  clear h
  go_enter Try.func85, Try.ntmps85
  go_wp2_with (go_at_call 83; refine N.out.mono ?_; rintro e w1 ⟨rfl, rfl⟩)
  go_ret
  exact ⟨rfl, rfl⟩
set_option maxRecDepth 100000 in
theorem none_read (i : Int) (h : NoDisk w p) : Calls Try.prog 80 #[.pointer p, .int .i64 i] w (RetV w (.tuple #[.slice none 0 0, .int .i64 1])) := by
  have N := Lib.hid (none_check i h)
  clear h
  go_enter Try.func80, Try.ntmps80
  go_wp2_with (go_at_call 85; refine N.out.mono ?_; rintro e w1 ⟨rfl, rfl⟩)
  go_ret2
  exact ⟨rfl, rfl⟩
set_option maxRecDepth 100000 in
theorem none_len (h : NoDisk w p) : Calls Try.prog 40 #[.pointer p] w (RetV w (.int .i64 0)) := by
  have N := Lib.hid (none_isNone h)
  clear h
  go_enter Try.func40, Try.ntmps40
  go_wp2_with (go_at_call 49; refine N.out.mono ?_; rintro e w1 ⟨rfl, rfl⟩)
  go_ret
  exact ⟨rfl, rfl⟩
set_option maxRecDepth 100000 in
theorem none_lives (h : NoDisk w p) : Calls Try.prog 44 #[.pointer p] w (RetV w (.int .i64 0)) := by
  have N := Lib.hid (none_isNone h)
  clear h
  go_enter Try.func44, Try.ntmps44
  go_wp2_with (go_at_call 49; refine N.out.mono ?_; rintro e w1 ⟨rfl, rfl⟩)
  go_ret
  exact ⟨rfl, rfl⟩
end
end Go.Proofs.Ythfmkdeglceppaa
