/-
  Own work. What is written over is the one row alone.
-/
import Derived.Test.YtpnmcdpekfibjaaLaw0
namespace Go.Proofs.Ytpnmcdpekfibjaa
open Go.RowKit
set_option linter.unusedVariables false

theorem grown_setCell {a w : World} {g : Nat} (h : a.grownBy w (some g)) (k : Nat) (u : Value) : a.grownBy (w.setCell ⟨g, k, none⟩ u) (some g) :=
  ⟨h.os, h.tape, h.output, by simpa [World.setCell] using h.size, fun i hi hne => (Below.heap_setCell w ⟨g, k, none⟩ u i (by
    rintro rfl
    exact hne rfl)).trans (h.block i hi hne)⟩

/-- Nothing but the one row has turned. -/
def RetRow (row : Option Nat) (w : World) (e : Ending) (w' : World) : Prop := e = .returned (.tuple #[]) ∧ w.grownBy w' row

theorem spoil_row (A : Option Addr) (l : List UInt8) (n c : Nat) (base : Nat) (w : World) (h : OwnB w base (.slice A n c) l) :
    Calls Try.prog 33 #[.slice A n c] w (RetRow (Value.slice A n c).ownBlock w) := by
  rcases h.form with ⟨e, rfl⟩ | ⟨g, c', cur, e, hbg, hlt, hg, hnc, hcm, hcs, _⟩
  · simp only [Value.slice.injEq] at e
    obtain ⟨rfl, rfl, rfl⟩ := e
    clear h
    have hr := World.grownBy.refl w (Value.slice none 0 0).ownBlock
    have HR := Lib.hid hr
    clear hr
    go_enter Try.func33, Try.ntmps33
    go_wp2_with fail
    go_loopw [3] (fun x wr => x = .int .i64 0 ∧ wr = w) (fun _ _ => 0)
    case atStart => exact ⟨rfl, rfl⟩
    case round =>
      obtain ⟨rfl, rfl⟩ := hrel
      go_wp2_with fail
      go_end0
      exact ⟨rfl, HR.out⟩
  · simp only [Value.slice.injEq] at e
    obtain ⟨rfl, rfl, rfl⟩ := e
    clear h
    unfold maxLen at hcm
    have HG := Lib.hid hg
    have HS := Lib.hid hcs
    clear hg hcs
    rw [show (Value.slice (some ⟨g, 0, none⟩) l.length c).ownBlock = some g from rfl]
    go_enter Try.func33, Try.ntmps33
    go_wp2_with fail
    go_loopw [3] (fun x wr => ∃ (k : Nat) (cu : Array Value), k ≤ c ∧ x = .int .i64 (k : Int) ∧ cu.size = c ∧ wr.heap[g]? = some (.cells cu 5 (0, 0)) ∧ w.grownBy wr (some g)) (fun x _ => c - (intOf x).toNat)
    case atStart => exact ⟨0, cur, by omega, rfl, HS.out, HG.out, World.grownBy.refl _ _⟩
    case round =>
      obtain ⟨k, cu, hk, rfl, hcu, hgu, hbel⟩ := hrel
      by_cases hlt2 : k < c
      · have hcc : wr.cell? ⟨g, k, none⟩ = some (cu[k]'(by omega)) := by rw [cell_of_row wr g k cu _ _ hgu]; exact Array.getElem?_eq_getElem (by omega)
        have hfz := frozen_of_row wr g k cu _ hgu
        have hst := heap_setCell_same wr g k cu _ (.int .u8 90) hgu
        generalize cu[k]'(by omega) = z at hcc
        have HST := Lib.hid hst
        have HCU := Lib.hid hcu
        have HB := Lib.hid hbel
        clear hst hgu hcu hbel
        go_wp2_with fail
        go_roundw
        case rel => exact ⟨k + 1, _, by omega, by go_num, by rw [Array.size_setIfInBounds]; exact HCU.out, HST.out, grown_setCell HB.out _ _⟩
        case measure => simp [intOf]; omega
      · obtain rfl : k = c := by omega
        have HGU := Lib.hid hgu
        have HCU := Lib.hid hcu
        have HB := Lib.hid hbel
        clear hgu hcu hbel
        go_wp2_with fail
        go_end0
        exact ⟨rfl, HB.out⟩
end Go.Proofs.Ytpnmcdpekfibjaa
