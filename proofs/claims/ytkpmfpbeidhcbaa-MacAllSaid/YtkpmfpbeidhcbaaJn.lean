/-
  Own work. The contract of cofferlaw0's Joined.
-/
import Derived.Test.YtkpmfpbeidhcbaaOf
import Derived.Test.YtkpmfpbeidhcbaaPut
namespace Go.Proofs.Ytkpmfpbeidhcbaa
open Go.RowKit
set_option linter.unusedVariables false
set_option linter.unusedSimpArgs false

set_option maxRecDepth 100000 in
theorem joined_any (A : Option Addr) (n c : Nat) (ls : List (List UInt8)) (w : World) (h : HasBB w w.heap.size A n ls) (hn : n ≤ 8192) (hf : ls.flatten.length ≤ 1073741824) :
    Calls Try.prog 12 #[.slice A n c] w (RetB w ls.flatten) := by
  have HS := Lib.hid h
  have HN := Lib.hid h.1
  have HF := Lib.hid hf
  clear h hf
  go_enter Try.func12, Try.ntmps12
  go_wp2_with fail
  go_loopw [3, 4] (fun s i wr => ∃ (A' : Option Addr) (n' c' k : Nat), s = .slice A' n' c' ∧ k ≤ n ∧ i = .int .i64 (k : Int) ∧ OwnB wr w.heap.size (.slice A' n' c') (ls.take k).flatten ∧ Below w.heap.size w wr) (fun _ i _ => n - (intOf i).toNat)
  case atStart => exact ⟨none, 0, 0, 0, rfl, by omega, rfl, OwnB.nil _ _, Below.refl _ _⟩
  case round =>
    obtain ⟨A', n', c', k, rfl, hk, rfl, hown, hbel⟩ := hrel
    by_cases hlt : k < n
    · obtain ⟨l, hl⟩ : ∃ l, ls[k]? = some l := ⟨_, List.getElem?_eq_getElem (by rw [← HN.out]; exact hlt)⟩
      obtain ⟨k0, o0, rfl, hk0, hc0⟩ := HS.out.2 (by omega)
      obtain ⟨Ai, ni, ci, hcell, hni, hhas⟩ := hc0 k l hl
      have hcw : wr.cell? ⟨k0, o0 + k, none⟩ = some (.slice Ai ni ci) := (hbel.cell (p := ⟨k0, o0 + k, none⟩) hk0).trans hcell
      have hsn := flat_snoc ls k l hl
      have hll : (ls.take k).flatten.length + l.length ≤ 1073741824 := by
        have h1 := flat_len ls (k + 1)
        have := HF.out
        rw [hsn, List.length_append] at h1
        omega
      have HSN := Lib.hid hsn
      have O := Lib.hid hown
      have B := Lib.hid hbel
      have SR := Lib.hid (hhas.below hbel)
      have HLL := Lib.hid hll
      clear hl hc0 hcell hhas hsn hown hbel hll
      go_wp2_with (at_builtin; refine wp_app rfl (.tmp 11) (.tmp 15) rfl Try.underlying22 infoU8 w.heap.size _ _ l rfl O.out _ _ _ _ rfl SR.out (by have := HLL.out; omega) B.out.size ?_; intro A5 n5 c5 w5 hown5 hg5 hb5)
      rw [← HSN.out] at hown5
      go_roundw
      case rel => exact ⟨A5, n5, c5, k + 1, rfl, by omega, by go_num, hown5, B.out.trans hb5⟩
      case measure => simp [intOf]; omega
    · obtain rfl : k = n := by omega
      rw [List.take_of_length_le (by rw [← HN.out]; exact Nat.le_refl _)] at hown
      have O := Lib.hid hown
      have B := Lib.hid hbel
      clear hown hbel
      go_wp2_with fail
      go_ret
      exact ⟨A', n', c', rfl, O.out, B.out⟩
end Go.Proofs.Ytkpmfpbeidhcbaa
