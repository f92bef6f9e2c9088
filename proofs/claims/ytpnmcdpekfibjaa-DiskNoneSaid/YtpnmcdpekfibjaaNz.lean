/-
  Own work. What a nil disk and a zero one answer; DiskNone.
-/
import Derived.Test.YtpnmcdpekfibjaaPk
import Derived.Test.YtpnmcdpekfibjaaDb
namespace Go.Proofs.Ytpnmcdpekfibjaa
open Go.RowKit
set_option linter.unusedVariables false
set_option linter.unusedSimpArgs false

/-- A pointer to no disk: nil, or to one that has no sectors. -/
def NoDisk (w : World) (p : Option Addr) : Prop := p = none ∨ ∃ g, p = some ⟨g, 0, none⟩ ∧ w.cell? ⟨g, 0, none⟩ = some (.slice none 0 0)
theorem NoDisk.below {w w' : World} {p : Option Addr} {B : Nat} (h : NoDisk w p) (hp : ∀ g o s, p = some ⟨g, o, s⟩ → g < B) (hb : Below B w w') : NoDisk w' p := by
  rcases h with h | ⟨g, rfl, hc⟩
  · exact .inl h
  · exact .inr ⟨g, rfl, (hb.cell (p := ⟨g, 0, none⟩) (hp g 0 none rfl)).trans hc⟩
section
variable {w : World} {p : Option Addr}
set_option maxRecDepth 100000 in
theorem none_isNone (h : NoDisk w p) : Calls Try.prog 38 #[.pointer p] w (RetV w (.bool true)) := by
  rcases h with rfl | ⟨g, rfl, hc⟩
  · exact pnone_nil w
  · go_enter Try.func38, Try.ntmps38
    go_wp2_with fail
    go_ret
    exact ⟨rfl, rfl⟩
set_option maxRecDepth 100000 in
theorem none_power_chk (h : NoDisk w p) : Calls Try.prog 44 #[.pointer p] w (RetV w (.int .i64 1)) := by
  have N := Lib.hid (none_isNone h)
  clear h
  go_enter Try.func44, Try.ntmps44
  go_wp2_with (go_at_call 38; refine N.out.mono ?_; rintro e w1 ⟨rfl, rfl⟩)
  go_ret
  exact ⟨rfl, rfl⟩
set_option maxRecDepth 100000 in
theorem none_check (i : Int) (h : NoDisk w p) : Calls Try.prog 39 #[.pointer p, .int .i64 i] w (RetV w (.int .i64 1)) := by
  have N := Lib.hid (none_power_chk h)
  clear h
  go_enter Try.func39, Try.ntmps39
  go_wp2_with (go_at_call 44; refine N.out.mono ?_; rintro e w1 ⟨rfl, rfl⟩)
  go_ret
  exact ⟨rfl, rfl⟩
set_option maxRecDepth 100000 in
theorem none_arm (a b : Int) (h : NoDisk w p) : Calls Try.prog 25 #[.pointer p, .int .i64 a, .int .i64 b] w (RetV w (.tuple #[])) := by
  have N := Lib.hid (none_isNone h)
  clear h
  go_enter Try.func25, Try.ntmps25
  go_wp2_with (go_at_call 38; refine N.out.mono ?_; rintro e w1 ⟨rfl, rfl⟩)
  go_end0
  exact ⟨rfl, rfl⟩
set_option maxRecDepth 100000 in
theorem none_power (A : Option Addr) (n c : Nat) (h : NoDisk w p) : Calls Try.prog 16 #[.pointer p, .slice A n c] w (RetV w (.tuple #[])) := by
  have N := Lib.hid (none_isNone h)
  clear h
  go_enter Try.func16, Try.ntmps16
  go_wp2_with (go_at_call 38; refine N.out.mono ?_; rintro e w1 ⟨rfl, rfl⟩)
  go_end0
  exact ⟨rfl, rfl⟩
set_option maxRecDepth 100000 in
theorem none_read (i : Int) (h : NoDisk w p) : Calls Try.prog 18 #[.pointer p, .int .i64 i] w (RetV w (.tuple #[.slice none 0 0, .int .i64 1])) := by
  have N := Lib.hid (none_check i h)
  clear h
  go_enter Try.func18, Try.ntmps18
  go_wp2_with (go_at_call 39; refine N.out.mono ?_; rintro e w1 ⟨rfl, rfl⟩)
  go_ret2
  exact ⟨rfl, rfl⟩
set_option maxRecDepth 100000 in
theorem none_write (i : Int) (A : Option Addr) (n c : Nat) (h : NoDisk w p) : Calls Try.prog 23 #[.pointer p, .int .i64 i, .slice A n c] w (RetV w (.int .i64 1)) := by
  have N := Lib.hid (none_check i h)
  clear h
  go_enter Try.func23, Try.ntmps23
  go_wp2_with (go_at_call 39; refine N.out.mono ?_; rintro e w1 ⟨rfl, rfl⟩)
  go_ret
  exact ⟨rfl, rfl⟩
set_option maxRecDepth 100000 in
theorem none_flush (h : NoDisk w p) : Calls Try.prog 24 #[.pointer p] w (RetV w (.int .i64 1)) := by
  have N := Lib.hid (none_power_chk h)
  clear h
  go_enter Try.func24, Try.ntmps24
  go_wp2_with (go_at_call 44; refine N.out.mono ?_; rintro e w1 ⟨rfl, rfl⟩)
  go_ret
  exact ⟨rfl, rfl⟩
set_option maxRecDepth 100000 in
theorem none_dead (h : NoDisk w p) : Calls Try.prog 21 #[.pointer p] w (RetV w (.bool true)) := by
  have N := Lib.hid (none_isNone h)
  clear h
  go_enter Try.func21, Try.ntmps21
  go_wp2_with (go_at_call 38; refine N.out.mono ?_; rintro e w1 ⟨rfl, rfl⟩)
  go_ret
  exact ⟨rfl, rfl⟩
set_option maxRecDepth 100000 in
theorem none_len (h : NoDisk w p) : Calls Try.prog 19 #[.pointer p] w (RetV w (.int .i64 0)) := by
  have N := Lib.hid (none_isNone h)
  clear h
  go_enter Try.func19, Try.ntmps19
  go_wp2_with (go_at_call 38; refine N.out.mono ?_; rintro e w1 ⟨rfl, rfl⟩)
  go_ret
  exact ⟨rfl, rfl⟩
set_option maxRecDepth 100000 in
theorem none_writes (h : NoDisk w p) : Calls Try.prog 29 #[.pointer p] w (RetV w (.int .i64 0)) := by
  have N := Lib.hid (none_isNone h)
  clear h
  go_enter Try.func29, Try.ntmps29
  go_wp2_with (go_at_call 38; refine N.out.mono ?_; rintro e w1 ⟨rfl, rfl⟩)
  go_ret
  exact ⟨rfl, rfl⟩
set_option maxRecDepth 100000 in
theorem none_lives (h : NoDisk w p) : Calls Try.prog 26 #[.pointer p] w (RetV w (.int .i64 0)) := by
  have N := Lib.hid (none_isNone h)
  clear h
  go_enter Try.func26, Try.ntmps26
  go_wp2_with (go_at_call 38; refine N.out.mono ?_; rintro e w1 ⟨rfl, rfl⟩)
  go_ret
  exact ⟨rfl, rfl⟩
set_option maxRecDepth 100000 in
theorem none_waiting (h : NoDisk w p) : Calls Try.prog 22 #[.pointer p] w (RetV w (.slice none 0 0)) := by
  have N := Lib.hid (none_isNone h)
  clear h
  go_enter Try.func22, Try.ntmps22
  go_wp2_with (go_at_call 38; refine N.out.mono ?_; rintro e w1 ⟨rfl, rfl⟩)
  go_ret
  exact ⟨rfl, rfl⟩
set_option maxRecDepth 100000 in
theorem none_copy (h : NoDisk w p) : Calls Try.prog 27 #[.pointer p] w (RetV w (.pointer none)) := by
  have N := Lib.hid (none_isNone h)
  clear h
  go_enter Try.func27, Try.ntmps27
  go_wp2_with (go_at_call 38; refine N.out.mono ?_; rintro e w1 ⟨rfl, rfl⟩)
  go_ret
  exact ⟨rfl, rfl⟩
end

end Go.Proofs.Ytpnmcdpekfibjaa
