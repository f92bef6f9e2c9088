/-
  Own work. sha's Of of one slice.
-/
import Derived.Test.YtadagbkfemcgfaaOf
namespace Go.Proofs.Ytadagbkfemcgfaa
open Go.RowKit
set_option linter.unusedVariables false
set_option linter.unusedSimpArgs false

/-- Of one slice that a call lays. -/
theorem has_one {W : World} {A : Option Addr} {n c : Nat} {a : List UInt8} (ha : HasB W W.heap.size A n a) (hc : n ≤ c) :
    HasBB (W.alloc (.cells #[.slice A n c] 24)) (W.alloc (.cells #[.slice A n c] 24)).heap.size (some ⟨W.heap.size, 0, none⟩) 1 [a] := by
  refine ⟨rfl, fun _ => ⟨W.heap.size, 0, rfl, by simp, fun i l hi => ?_⟩⟩
  have hrow := heap_alloc_new W (.cells #[.slice A n c] 24)
  rcases i with _ | i
  · simp only [List.getElem?_cons_zero, Option.some.injEq] at hi
    subst hi
    exact ⟨A, n, c, by rw [cell_of_row _ _ _ _ _ _ hrow]; rfl, hc, (ha.alloc (Nat.le_refl _) _).more (by simp)⟩
  · simp at hi
theorem of_one {W : World} {A : Option Addr} {n c : Nat} {a : List UInt8} (ha : HasB W W.heap.size A n a) (hc : n ≤ c) (hn : n ≤ 1073741824) :
    Calls Try.prog 61 #[.slice (some ⟨W.heap.size, 0, none⟩) 1 1] (W.alloc (.cells #[.slice A n c] 24)) (RetID (W.alloc (.cells #[.slice A n c] 24)) (sumS a)) := by
  have := of_any _ 1 1 [a] _ (has_one ha hc) (by omega) (by have := ha.len; simp; omega)
  simpa using this

/-- Of two slices that a call lays side by side. -/
theorem has_two {W : World} {A B : Option Addr} {n m c d : Nat} {a b : List UInt8} (ha : HasB W W.heap.size A n a) (hb : HasB W W.heap.size B m b) (hc : n ≤ c) (hd : m ≤ d) :
    HasBB (W.alloc (.cells #[.slice A n c, .slice B m d] 24)) (W.alloc (.cells #[.slice A n c, .slice B m d] 24)).heap.size (some ⟨W.heap.size, 0, none⟩) 2 [a, b] := by
  refine ⟨rfl, fun _ => ⟨W.heap.size, 0, rfl, by simp, fun i l hi => ?_⟩⟩
  have hrow := heap_alloc_new W (.cells #[.slice A n c, .slice B m d] 24)
  rcases i with _ | _ | i
  · simp only [List.getElem?_cons_zero, Option.some.injEq] at hi
    subst hi
    exact ⟨A, n, c, by rw [cell_of_row _ _ _ _ _ _ hrow]; rfl, hc, (ha.alloc (Nat.le_refl _) _).more (by simp)⟩
  · simp only [List.getElem?_cons_succ, List.getElem?_cons_zero, Option.some.injEq] at hi
    subst hi
    exact ⟨B, m, d, by rw [cell_of_row _ _ _ _ _ _ hrow]; rfl, hd, (hb.alloc (Nat.le_refl _) _).more (by simp)⟩
  · simp at hi
theorem of_two {W : World} {A B : Option Addr} {n m c d : Nat} {a b : List UInt8} (ha : HasB W W.heap.size A n a) (hb : HasB W W.heap.size B m b) (hc : n ≤ c) (hd : m ≤ d) (hn : n ≤ 4096) (hm : m ≤ 4096) :
    Calls Try.prog 61 #[.slice (some ⟨W.heap.size, 0, none⟩) 2 2] (W.alloc (.cells #[.slice A n c, .slice B m d] 24)) (RetID (W.alloc (.cells #[.slice A n c, .slice B m d] 24)) (sumS (a ++ b))) := by
  have := of_any _ 2 2 [a, b] _ (has_two ha hb hc hd) (by omega) (by have := ha.len; have := hb.len; simp; omega)
  simpa using this
end Go.Proofs.Ytadagbkfemcgfaa
