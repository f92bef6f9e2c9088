/-
  Own work. The contract of cofferlaw0's Spoil.
-/
import Derived.Test.YtadagbkfemcgfaaG1
namespace Go.Proofs.Ytadagbkfemcgfaa
open Go.RowKit
set_option linter.unusedVariables false
set_option linter.unusedSimpArgs false

/-- A call that hands nothing back and turns nothing below block B. -/
def RetNone (B : Nat) (w : World) (e : Ending) (w' : World) : Prop := e = .returned (.tuple #[]) ∧ Below B w w'

theorem spoil_any (A : Option Addr) (l : List UInt8) (n c : Nat) (base : Nat) (w : World) (h : OwnB w base (.slice A n c) l) :
    Calls Try.prog 15 #[.slice A n c] w (RetNone base w) := by
  rcases h.form with ⟨e, rfl⟩ | ⟨g, c', cur, e, hbg, hlt, hg, hnc, hcm, hcs, _⟩
  · simp only [Value.slice.injEq] at e
    obtain ⟨rfl, rfl, rfl⟩ := e
    clear h
    go_enter Try.func15, Try.ntmps15
    go_wp2_with fail
    go_loopw [3] (fun x wr => x = .int .i64 0 ∧ wr = w) (fun _ _ => 0)
    case atStart => exact ⟨rfl, rfl⟩
    case round =>
      obtain ⟨rfl, rfl⟩ := hrel
      go_wp2_with fail
      go_end0
      exact ⟨rfl, Below.refl _ _⟩
  · simp only [Value.slice.injEq] at e
    obtain ⟨rfl, rfl, rfl⟩ := e
    clear h
    unfold maxLen at hcm
    have HG := Lib.hid hg
    have HS := Lib.hid hcs
    clear hg hcs
    go_enter Try.func15, Try.ntmps15
    go_wp2_with fail
    go_loopw [3] (fun x wr => ∃ (k : Nat) (cu : Array Value), k ≤ c ∧ x = .int .i64 (k : Int) ∧ cu.size = c ∧ wr.heap[g]? = some (.cells cu 5 (0, 0)) ∧ Below base w wr) (fun x _ => c - (intOf x).toNat)
    case atStart => exact ⟨0, cur, by omega, rfl, HS.out, HG.out, Below.refl _ _⟩
    case round =>
      obtain ⟨k, cu, hk, rfl, hcu, hgu, hbel⟩ := hrel
      by_cases hlt2 : k < c
      · have hcc : wr.cell? ⟨g, k, none⟩ = some (cu[k]'(by omega)) := by rw [cell_of_row wr g k cu _ _ hgu]; exact Array.getElem?_eq_getElem (by omega)
        have hfz := frozen_of_row wr g k cu _ hgu
        have hst := heap_setCell_same wr g k cu _ (.int .u8 90) hgu
        generalize cu[k]'(by omega) = z at hcc
        have HST := Lib.hid hst
        have HCU := Lib.hid hcu
        clear hst hgu hcu
        go_wp2_with fail
        go_roundw
        case rel => exact ⟨k + 1, _, by omega, by go_num, by rw [Array.size_setIfInBounds]; exact HCU.out, HST.out, hbel.setCell (p := ⟨g, k, none⟩) hbg _⟩
        case measure => simp [intOf]; omega
      · obtain rfl : k = c := by omega
        have HGU := Lib.hid hgu
        have HCU := Lib.hid hcu
        clear hgu hcu
        go_wp2_with fail
        go_end0
        exact ⟨rfl, hbel⟩
end Go.Proofs.Ytadagbkfemcgfaa
