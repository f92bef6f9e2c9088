/-
  Own work. An argument of type [][]byte.
-/
import Derived.Test.YtkpmfpbeidhcbaaOf
import Derived.Deep.Matrix
namespace Go.Proofs.Ytkpmfpbeidhcbaa
open Go.RowKit
set_option linter.unusedVariables false
set_option linter.unusedSimpArgs false

/-- A list of lists of bytes that came in. -/
theorem rows_open {H : Type} {enc : TypeId × Value → H} {W : World} {held : Bool} {fuel len cap : Nat} {a : Option Addr} {x : DataW H × List MemPlace}
    (h : DataW.trod enc Try.prog W 0 (fun _ => true) held fuel 23 [.slice a len cap] = some x) : ∃ ls, HasBB W W.heap.size a len ls ∧ len ≤ cap ∧ cap ≤ maxLen := by
  rcases Go.Deep.open_int_rows Try.underlying23 Try.underlying22 Try.underlying5 (by kernel_rfl) (by kernel_rfl) h with ⟨hcs, _⟩ | ⟨b, l2, c2, A, L, C, Z, hcs, _, hl, hm, _, hrow⟩
  · simp only [List.cons.injEq, Value.slice.injEq, and_true] at hcs
    obtain ⟨rfl, rfl, rfl⟩ := hcs
    exact ⟨[], ⟨rfl, fun h => absurd h (by simp)⟩, Nat.le_refl _, by simp⟩
  · simp only [List.cons.injEq, Value.slice.injEq, and_true] at hcs
    obtain ⟨rfl, rfl, rfl⟩ := hcs
    have each : ∀ r, ∃ l : List UInt8, r < len → HasB W W.heap.size (A r) (L r) l := by
      intro r
      by_cases hr : r < len
      · obtain ⟨_, h1, h2, h3, h4, h5, h6⟩ := hrow r (by omega)
        obtain ⟨l, hl2, _⟩ := has_of_row (w := W) (a := A r) (len := L r) (cap := C r) (zs := Z r) (by
          rcases hA : A r with _ | y
          · have h7 := h5 hA
            exact .inl ⟨rfl, by omega, h7, List.eq_nil_of_length_eq_zero (by omega)⟩
          · exact .inr ⟨y, rfl, h1, h2, h3, fun i hi => (h6 y hA).2 i (by omega), h4⟩)
        exact ⟨l, fun _ => hl2⟩
      · exact ⟨[], fun q => absurd q hr⟩
    refine ⟨(List.range len).map fun r => Classical.choose (each r), ⟨by simp, fun hpos => ?_⟩, hl, hm⟩
    obtain ⟨g, o, s⟩ := b
    have c0 := (hrow 0 (by omega)).1
    have hs : s = none := by
      have := World.cell?_spot c0
      simpa [Addr.add] using this
    subst hs
    refine ⟨g, o, rfl, ?_, fun i l hi => ?_⟩
    · have := World.block_lt_of_cell? W _ c0
      simpa [Addr.add] using this
    · have hlt : i < len := by
        have := (List.getElem?_eq_some_iff.1 hi).1
        simpa using this
      simp only [List.getElem?_map, List.getElem?_range hlt, Option.map_some, Option.some.injEq] at hi
      subst hi
      obtain ⟨e1, h1, _⟩ := hrow i (by omega)
      rw [Addr.add_lit] at e1
      exact ⟨A i, L i, C i, e1, h1, Classical.choose_spec (each i) hlt⟩
end Go.Proofs.Ytkpmfpbeidhcbaa
