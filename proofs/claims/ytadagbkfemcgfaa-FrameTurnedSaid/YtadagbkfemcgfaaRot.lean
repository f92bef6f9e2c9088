/-
  Own work. Words below 2^32: turned and shifted; contracts of the document's answer's own turn and down.
-/
import Derived.Test.YtadagbkfemcgfaaG1
namespace Go.Proofs.Ytadagbkfemcgfaa
open Go.RowKit
set_option linter.unusedVariables false

/-- A word of 32 bits turned to the right by n. -/
def rotr (n x : Nat) : Nat := x / 2 ^ n + x % 2 ^ n * 2 ^ (32 - n)
theorem rotr_zero (x : Nat) : rotr 0 x = x := by simp [rotr, Nat.mod_one]
theorem two_pow_split (i : Nat) (h : i < 32) : 2 ^ i * 2 ^ (31 - i) = 2147483648 ∧ 2 ^ (32 - i) = 2 * 2 ^ (31 - i) := by
  constructor
  · rw [← Nat.pow_add, show i + (31 - i) = 31 by omega]
  · rw [show 32 - i = (31 - i) + 1 by omega, Nat.pow_succ, Nat.mul_comm]
theorem rotr_step (i x : Nat) (h : i < 32) : rotr (i + 1) x = rotr i x / 2 + rotr i x % 2 * 2147483648 := by
  obtain ⟨h1, h2⟩ := two_pow_split i h
  unfold rotr
  rw [h2, show 32 - (i + 1) = 31 - i by omega, Nat.pow_succ, ← Nat.div_div_eq_div_mul, Nat.mod_mul]
  generalize 2 ^ i = P at *
  generalize 2 ^ (31 - i) = Q at *
  generalize x / P = a
  generalize x % P = r
  have e1 : r * (2 * Q) = 2 * (r * Q) := by rw [Nat.mul_left_comm]
  have e2 : (r + P * (a % 2)) * Q = r * Q + a % 2 * 2147483648 := by
    rw [Nat.add_mul, ← h1, Nat.mul_right_comm P, Nat.mul_comm (P * Q)]
  rw [e1, e2]
  generalize r * Q = z
  omega
theorem rotr_lt (n x : Nat) (hn : n ≤ 32) (hx : x < 4294967296) : rotr n x < 4294967296 := by
  induction n with
  | zero => rw [rotr_zero]; exact hx
  | succ n ih =>
    have := ih (by omega)
    rw [rotr_step n x (by omega)]
    omega

theorem turn_any (x n : Nat) (w : World) (hx : x < 4294967296) (hn : n ≤ 32) :
    Calls Try.prog 106 #[.int .u64 (x : Int), .int .i64 (n : Int)] w fun e w' => e = .returned (.int .u64 ((rotr n x : Nat) : Int)) ∧ w = w' := by
  go_enter Try.func106, Try.ntmps106
  go_wp2_with fail
  go_loop [0, 5] (fun y i => ∃ j : Nat, j ≤ n ∧ i = .int .i64 (j : Int) ∧ y = .int .u64 ((rotr j x : Nat) : Int)) (fun _ i => n - (intOf i).toNat)
  case atStart => exact ⟨0, by omega, rfl, by rw [rotr_zero]⟩
  case round =>
    obtain ⟨j, hj, rfl, rfl⟩ := hrel
    have hlt := rotr_lt j x (by omega) hx
    by_cases hl : j < n
    · have hs := rotr_step j x (by omega)
      have HS := Lib.hid hs
      clear hs
      generalize rotr j x = r at *
      go_wp2_with fail
      go_round
      case rel => exact ⟨j + 1, by omega, by go_num, by rw [HS.out]; go_num⟩
      case measure => simp [intOf]; omega
    · obtain rfl : j = n := by omega
      go_wp2_with fail
      go_ret
      exact ⟨rfl, rfl⟩

theorem down_any (x n : Nat) (w : World) (hx : x < 4294967296) (hn : n ≤ 32) :
    Calls Try.prog 107 #[.int .u64 (x : Int), .int .i64 (n : Int)] w fun e w' => e = .returned (.int .u64 ((x / 2 ^ n : Nat) : Int)) ∧ w = w' := by
  go_enter Try.func107, Try.ntmps107
  go_wp2_with fail
  go_loop [0, 5] (fun y i => ∃ j : Nat, j ≤ n ∧ i = .int .i64 (j : Int) ∧ y = .int .u64 ((x / 2 ^ j : Nat) : Int)) (fun _ i => n - (intOf i).toNat)
  case atStart => exact ⟨0, by omega, rfl, by simp⟩
  case round =>
    obtain ⟨j, hj, rfl, rfl⟩ := hrel
    have hle : x / 2 ^ j ≤ x := Nat.div_le_self _ _
    by_cases hl : j < n
    · have hs : x / 2 ^ (j + 1) = x / 2 ^ j / 2 := by rw [Nat.pow_succ, Nat.div_div_eq_div_mul]
      have HS := Lib.hid hs
      clear hs
      generalize x / 2 ^ j = r at *
      go_wp2_with fail
      go_round
      case rel => exact ⟨j + 1, by omega, by go_num, by rw [HS.out]; go_num⟩
      case measure => simp [intOf]; omega
    · obtain rfl : j = n := by omega
      go_wp2_with fail
      go_ret
      exact ⟨rfl, rfl⟩

/-- A word turned, as shifts have it. -/
theorem rotr_or (n x : Nat) (hn : n ≤ 32) (hx : x < 4294967296) : x / 2 ^ n ||| x * 2 ^ (32 - n) % 4294967296 = rotr n x := by
  have hP : 2 ^ n * 2 ^ (32 - n) = 4294967296 := by rw [← Nat.pow_add, show n + (32 - n) = 32 by omega]
  have hq : 0 < 2 ^ (32 - n) := Nat.two_pow_pos _
  have hlt : x / 2 ^ n < 2 ^ (32 - n) := by
    rw [Nat.div_lt_iff_lt_mul (Nat.two_pow_pos _), Nat.mul_comm, hP]; exact hx
  have hm : x * 2 ^ (32 - n) % 4294967296 = 2 ^ (32 - n) * (x % 2 ^ n) := by
    rw [← hP, Nat.mul_mod_mul_right, Nat.mul_comm]
  rw [hm, Nat.or_comm, ← Nat.two_pow_add_eq_or_of_lt hlt]
  unfold rotr
  rw [Nat.mul_comm (x % 2 ^ n), Nat.add_comm]
end Go.Proofs.Ytadagbkfemcgfaa
