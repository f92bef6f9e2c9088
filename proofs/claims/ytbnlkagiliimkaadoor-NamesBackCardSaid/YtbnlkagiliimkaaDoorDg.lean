/-
  Own work. The contract of the document's answer's digit.
-/
import Derived.Test.YtbnlkagiliimkaaDoorByt
namespace Go.Proofs.YtbnlkagiliimkaaDoor
open Go.RowKit
set_option linter.unusedVariables false
set_option linter.unusedSimpArgs false

/-- A digit's number; -1: none. -/
def dgE (c : UInt8) : Int := if 48 ≤ c.toNat ∧ c.toNat ≤ 57 then (c.toNat : Int) - 48 else if 97 ≤ c.toNat ∧ c.toNat ≤ 102 then (c.toNat : Int) - 87 else -1
def digL : List UInt8 := [48, 49, 50, 51, 52, 53, 54, 55, 56, 57, 97, 98, 99, 100, 101, 102]

theorem dg_at : ∀ j : Fin 16, dgE (digL[j]'j.2) = (j.val : Int) := by decide +kernel
theorem dg_all : ∀ c : Fin 256, dgE (UInt8.ofNat c.val) = -1 ∨ ∃ j : Fin 16, digL[j]'j.2 = UInt8.ofNat c.val := by decide +kernel
theorem dg_hit {c : UInt8} {j : Nat} (h : digL[j]? = some c) : dgE c = (j : Int) := by
  obtain ⟨hj, rfl⟩ := List.getElem?_eq_some_iff.1 h
  exact dg_at ⟨j, hj⟩
theorem dg_none {c : UInt8} (h : ∀ i y, i < 16 → digL[i]? = some y → y ≠ c) : dgE c = -1 := by
  have hc : UInt8.ofNat c.toNat = c := by simp
  rcases dg_all ⟨c.toNat, c.toNat_lt⟩ with e | ⟨j, e⟩
  · rw [hc] at e; exact e
  · rw [hc] at e
    exact absurd e (h j.val _ j.2 (List.getElem?_eq_getElem j.2))
theorem dg_range (c : UInt8) : -1 ≤ dgE c ∧ dgE c ≤ 15 := by
  unfold dgE
  have := c.toNat_lt
  split
  · omega
  · split <;> omega

set_option maxRecDepth 100000 in
theorem digit_any (c : UInt8) (w : World) : Calls Tryd.prog 28 #[.int .u8 (c.toNat : Int)] w fun e w' => e = .returned (.int .i64 (dgE c)) ∧ w = w' := by
  go_enter Tryd.func28, Tryd.ntmps28
  go_wp2_with fail
  go_loopw [3] (fun x wr => ∃ j : Nat, j ≤ 16 ∧ x = .int .i64 (j : Int) ∧ (∀ i y, i < j → digL[i]? = some y → y ≠ c) ∧ wr = w) (fun x _ => 16 - (intOf x).toNat)
  case atStart => exact ⟨0, by omega, rfl, by simp, rfl⟩
  case round =>
    obtain ⟨j, hj, rfl, hne, rfl⟩ := hrel
    by_cases hlt : j < 16
    · obtain ⟨y, hy⟩ : ∃ y, digL[j]? = some y := ⟨_, List.getElem?_eq_getElem hlt⟩
      have hidx : (⟨digL.toArray⟩ : ByteArray)[j]'hlt = y := by
        obtain ⟨_, h2⟩ := List.getElem?_eq_some_iff.1 hy
        exact h2
      have HY := Lib.hid hy
      have HN := Lib.hid hne
      unfold digL at hidx
      clear hy hne
      by_cases hyc : y = c
      · subst hyc
        go_wp2_with fail
        go_ret
        exact ⟨by rw [dg_hit HY.out]; rfl, rfl⟩
      · have hyc2 : ((y.toNat : Int) == (c.toNat : Int)) = false := by
          rw [beq_eq_false_iff_ne]
          intro e
          exact hyc (UInt8.toNat_inj.1 (by omega))
        have hyc3 : (y.toNat == c.toNat) = false := by
          rw [beq_eq_false_iff_ne]
          intro e
          exact hyc (UInt8.toNat_inj.1 e)
        go_wp2_with fail
        go_roundw
        case rel =>
          refine ⟨j + 1, by omega, by go_num, fun i y' hi hy' => ?_, trivial⟩
          rcases Nat.lt_succ_iff_lt_or_eq.1 hi with h | rfl
          · exact HN.out i y' h hy'
          · rw [HY.out] at hy'
            injection hy' with hy'
            exact hy' ▸ hyc
        case measure => simp [intOf]; omega
    · obtain rfl : j = 16 := by omega
      have hd := dg_none hne
      clear hne
      go_wp2_with fail
      go_ret
      exact ⟨by rw [hd]; rfl, rfl⟩
end Go.Proofs.YtbnlkagiliimkaaDoor
