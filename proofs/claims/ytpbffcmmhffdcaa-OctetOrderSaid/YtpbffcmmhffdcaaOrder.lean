/-
  The law OctetOrder walked: numbers of one width stand in the order of their bytes.
-/
import Derived.Test.YtpbffcmmhffdcaaBeg
namespace Go.Proofs.Ytpbffcmmhffdcaa
open Go.RowKit
set_option linter.unusedVariables false

theorem less_step (P a b x y : Nat) (hx : x < P) (hy : y < P) : (x + P * a < y + P * b) ↔ (a < b ∨ (a = b ∧ x < y)) := by
  rcases Nat.lt_trichotomy a b with h | rfl | h
  · have : P * (a + 1) ≤ P * b := Nat.mul_le_mul_left _ h
    rw [Nat.mul_add] at this
    constructor
    · intro _; exact .inl h
    · intro _; omega
  · constructor
    · intro h; exact .inr ⟨rfl, by omega⟩
    · rintro (h | ⟨_, h⟩) <;> omega
  · have : P * (b + 1) ≤ P * a := Nat.mul_le_mul_left _ h
    rw [Nat.mul_add] at this
    constructor
    · intro _; omega
    · rintro (h | ⟨_, h⟩) <;> omega

theorem less_be : ∀ (n x y : Nat), Op.bytesLess (be n x) (be n y) = decide (x % 256 ^ n < y % 256 ^ n)
  | 0, x, y => by simp [be, Op.bytesLess, Nat.mod_one]
  | n + 1, x, y => by
    rw [be_cons, be_cons, Op.bytesLess, less_be n x y, Bool.eq_iff_iff]
    have hP : 0 < 256 ^ n := Nat.pow_pos (by omega)
    simp only [Bool.or_eq_true, Bool.and_eq_true, decide_eq_true_eq, beq_iff_eq, UInt8.lt_iff_toNat_lt, ← UInt8.toNat_inj, UInt8.toNat_ofNat']
    have e1 : x % 256 ^ (n + 1) = x % 256 ^ n + 256 ^ n * (x / 256 ^ n % 256) := Nat.mod_pow_succ
    have e2 : y % 256 ^ (n + 1) = y % 256 ^ n + 256 ^ n * (y / 256 ^ n % 256) := Nat.mod_pow_succ
    rw [e1, e2, less_step _ _ _ _ _ (Nat.mod_lt _ hP) (Nat.mod_lt _ hP)]

theorem less_be8 (x y : Nat) (hx : x < 18446744073709551616) (hy : y < 18446744073709551616) :
    Op.bytesLess (ByteArray.toList ⟨(be 8 x).toArray⟩) (ByteArray.toList ⟨(be 8 y).toArray⟩) = decide ((x : Int) < (y : Int)) := by
  rw [ByteArray.toList_eq, ByteArray.toList_eq]
  show Op.bytesLess (be 8 x) (be 8 y) = _
  rw [less_be, show 256 ^ 8 = 18446744073709551616 by decide, Nat.mod_eq_of_lt hx, Nat.mod_eq_of_lt hy]
  simp

theorem order_any (a b : Nat) (w : World) (ha : a < 18446744073709551616) (hb : b < 18446744073709551616) :
    Calls Try.prog 6 #[.int .u64 (a : Int), .int .u64 (b : Int)] w (RetTrue w) := by
  have hl := less_be8 a b ha hb
  generalize hs1 : (⟨(be 8 a).toArray⟩ : ByteArray) = s1 at *
  generalize hs2 : (⟨(be 8 b).toArray⟩ : ByteArray) = s2 at *
  have HS1 := Lib.hid hs1
  have HS2 := Lib.hid hs2
  have HL := Lib.hid hl
  clear hs1 hs2 hl
  go_enter Try.func6, Try.ntmps6
  go_wp2_with fail
  refine (put_ok none [] 0 0 a 8 _ (HasB.nil _ _ _) (by omega) ha (by omega) (by omega) (by rw [show 256 ^ 8 = 18446744073709551616 by decide]; exact ha)).mono ?_
  rintro e w1 ⟨A1, n1, c1, rfl, hown1, hb1⟩
  obtain rfl : n1 = 8 := by have := hown1.len; simpa [be_length] using this
  go_wp2_with fail
  refine (put_ok none [] 0 0 b 8 _ (HasB.nil _ _ _) (by omega) hb (by omega) (by omega) (by rw [show 256 ^ 8 = 18446744073709551616 by decide]; exact hb)).mono ?_
  rintro e w2 ⟨A2, n2, c2, rfl, hown2, hb2⟩
  obtain rfl : n2 = 8 := by have := hown2.len; simpa [be_length] using this
  go_wp2_with fail
  refine (begun_any _).mono ?_
  rintro e w3 ⟨rfl, hb3⟩
  have hc1 := run_conv (P := Try.prog) Try.underlying22 Try.underlying5 Try.underlying9 _ _ _ c1 _ ((hown1.below hb2).below hb3).has
  have hc2 := run_conv (P := Try.prog) Try.underlying22 Try.underlying5 Try.underlying9 _ _ _ c2 _ (hown2.below hb3).has
  rw [List.nil_append, HS1.out] at hc1
  rw [List.nil_append, HS2.out] at hc2
  have hbb : Below w.heap.size w w3 := hb1.trans ((hb2.mono hb1.size).trans (hb3.mono (Nat.le_trans hb1.size hb2.size)))
  clear hown1 hown2 hb1 hb2 hb3
  have hl := HL.out
  go_wp2_with fail
  go_ret
  exact ⟨rfl, hbb⟩
end Go.Proofs.Ytpbffcmmhffdcaa
