/-
  Own work. The contract of mac's Equal.
-/
import Derived.Test.YtkpmfpbeidhcbaaMk
namespace Go.Proofs.Ytkpmfpbeidhcbaa
open Go.RowKit
set_option linter.unusedVariables false
set_option linter.unusedSimpArgs false

theorem or8 (a b : UInt8) : bits .or .u8 (a.toNat : Int) (b.toNat : Int) = ((a ||| b).toNat : Int) := by
  rw [(bits_nat .u8 8 (by decide) wraps_u8 a.toNat b.toNat a.toNat_lt b.toNat_lt).2, UInt8.toNat_or]
theorem orxor_zero (y a b : UInt8) : (y ||| (a ^^^ b)) = 0 ↔ y = 0 ∧ a = b := by
  rw [UInt8.or_eq_zero_iff, UInt8.xor_eq_zero_iff]
theorem take_alike {a b : List UInt8} {j : Nat} {x y : UInt8} (hx : a[j]? = some x) (hy : b[j]? = some y) : a.take (j + 1) = b.take (j + 1) ↔ a.take j = b.take j ∧ x = y := by
  obtain ⟨h1, rfl⟩ := List.getElem?_eq_some_iff.1 hx
  obtain ⟨h2, rfl⟩ := List.getElem?_eq_some_iff.1 hy
  rw [List.take_succ_eq_append_getElem h1, List.take_succ_eq_append_getElem h2]
  constructor
  · intro h
    have := List.append_inj h (by simp; omega)
    exact ⟨this.1, by simpa using this.2⟩
  · rintro ⟨h3, h4⟩
    rw [h3, h4]
theorem u8_zero (y : UInt8) : (y.toNat : Int) = 0 ↔ y = 0 := by
  constructor
  · intro h
    apply UInt8.toNat_inj.1
    have : (0 : UInt8).toNat = 0 := rfl
    omega
  · rintro rfl
    rfl

/-- What a call that tells something and turns nothing does. -/
def RetBool (w : World) (r : Bool) (e : Ending) (w' : World) : Prop := e = .returned (.bool r) ∧ Below w.heap.size w w'

set_option maxRecDepth 100000 in
set_option maxHeartbeats 400000 in
theorem equal_any (A B : Option Addr) (n c m d : Nat) (a b : List UInt8) (w : World) (ha : HasB w w.heap.size A n a) (hb : HasB w w.heap.size B m b) (hn : n ≤ 1073741824) (hm : m ≤ 1073741824) :
    Calls Try.prog 21 #[.slice A n c, .slice B m d] w (RetBool w (decide (a = b))) := by
  have la := ha.len
  have lb := hb.len
  have HA := Lib.hid ha
  have HB := Lib.hid hb
  have LA := Lib.hid la
  have LB := Lib.hid lb
  clear ha hb la lb
  by_cases hnm : n = m
  · subst hnm
    go_enter Try.func21, Try.ntmps21
    go_wp2_with fail
    go_loopw [5, 14] (fun y i wr => ∃ (j : Nat) (z : UInt8), j ≤ n ∧ i = .int .i64 (j : Int) ∧ y = .int .u8 (z.toNat : Int) ∧ (z = 0 ↔ a.take j = b.take j) ∧ Below w.heap.size w wr) (fun _ i _ => n - (intOf i).toNat)
    case atStart => exact ⟨0, 0, by omega, rfl, rfl, by simp, Below.refl _ _⟩
    case round =>
      obtain ⟨j, z, hj, rfl, rfl, hz, hbel⟩ := hrel
      by_cases hlt : j < n
      · obtain ⟨x, hx⟩ : ∃ x, a[j]? = some x := ⟨_, List.getElem?_eq_getElem (by rw [← LA.out]; exact hlt)⟩
        obtain ⟨y, hy⟩ : ∃ y, b[j]? = some y := ⟨_, List.getElem?_eq_getElem (by rw [← LB.out]; exact hlt)⟩
        obtain ⟨g1, o1, rfl, _, c1⟩ := (HA.out.below hbel).2 (by omega)
        obtain ⟨g2, o2, rfl, _, c2⟩ := (HB.out.below hbel).2 (by omega)
        have d1 := c1 j x hx
        have d2 := c2 j y hy
        have e1 := xor8 x y
        have e2 := or8 z (x ^^^ y)
        have HZ := Lib.hid ((orxor_zero z x y).trans ((and_congr hz Iff.rfl).trans (take_alike hx hy).symm))
        have HBL := Lib.hid hbel
        clear hx hy c1 c2 hz hbel
        go_wp2_with fail
        go_region
        go_wp2_with fail
        go_roundw
        case rel => exact ⟨j + 1, z ||| (x ^^^ y), by omega, by go_num, by rw [← e2, UInt8.toNat_xor], HZ.out, HBL.out.drew⟩
        case measure => simp [intOf]; omega
      · obtain rfl : j = n := by omega
        rw [List.take_of_length_le (by rw [← LA.out]; exact Nat.le_refl _), List.take_of_length_le (by rw [← LB.out]; exact Nat.le_refl _)] at hz
        have HZ := Lib.hid hz
        have HBL := Lib.hid hbel
        have u0 := u8_zero z
        clear hz hbel
        go_wp2_with fail
        go_ret
        have hv : ((z.toNat : Int) == 0) = decide (a = b) := by
          rw [Bool.eq_iff_iff, beq_iff_eq, decide_eq_true_iff]
          exact u0.trans HZ.out
        refine ⟨?_, HBL.out⟩
        show Ending.returned (.bool ((z.toNat : Int) == 0)) = _
        rw [hv]
  · have hne : a ≠ b := by
      intro e
      exact hnm (by rw [LA.out, LB.out, e])
    go_enter Try.func21, Try.ntmps21
    go_wp2_with fail
    go_ret
    exact ⟨by show Ending.returned (.bool false) = _; rw [decide_eq_false hne], Below.refl _ _⟩
end Go.Proofs.Ytkpmfpbeidhcbaa
