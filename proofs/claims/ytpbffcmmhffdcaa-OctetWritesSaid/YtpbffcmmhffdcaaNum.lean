/-
  Own work. Contracts of Zig, Zag and Wrap, of package octet and of the document's answer.
-/
import Derived.Test.YtpbffcmmhffdcaaByt
namespace Go.Proofs.Ytpbffcmmhffdcaa
open Go.RowKit
set_option linter.unusedVariables false

/-- Signs laid aside. -/
def zigI (v : Int) : Int := if v < 0 then -2 * v - 1 else 2 * v
/-- And back. -/
def zagI (u : Int) : Int := if u % 2 = 1 then -(u / 2) - 1 else u / 2
theorem zag_zig (v : Int) : zagI (zigI v) = v := by unfold zagI zigI; split <;> split <;> omega
theorem zig_zag (u : Int) (h : 0 ≤ u) : zigI (zagI u) = u := by unfold zagI zigI; split <;> split <;> omega
theorem zigI_bd (v : Int) (h : -9223372036854775808 ≤ v ∧ v ≤ 9223372036854775807) : 0 ≤ zigI v ∧ zigI v ≤ 18446744073709551615 := by unfold zigI; split <;> omega
theorem zagI_bd (u : Int) (h : 0 ≤ u ∧ u ≤ 18446744073709551615) : -9223372036854775808 ≤ zagI u ∧ zagI u ≤ 9223372036854775807 := by unfold zagI; split <;> omega

theorem xor_zero64 (b : Nat) : b ^^^ 0 = b := Nat.xor_zero b

theorem zig_bits (v : Int) (h : -9223372036854775808 ≤ v ∧ v ≤ 9223372036854775807) :
    bits .xor .u64 (IntKind.u64.wrap (IntKind.u64.wrap v * 2)) (IntKind.u64.wrap (v / 9223372036854775808)) = zigI v := by
  unfold zigI
  by_cases hn : v < 0
  · rw [if_pos hn]
    have e1 : IntKind.u64.wrap (IntKind.u64.wrap v * 2) = (((2 * v + 18446744073709551616).toNat : Nat) : Int) := by
      rw [IntKind.wrap_u64, IntKind.wrap_u64]; omega
    have e2 : IntKind.u64.wrap (v / 9223372036854775808) = ((2 ^ 64 - 1 : Nat) : Int) := by
      rw [IntKind.wrap_u64]; omega
    rw [e1, e2, bits_xor_u64_nat _ _ (by omega) (by decide), Nat.xor_comm, Lib.xor_ones64 _ (by omega)]
    omega
  · rw [if_neg hn]
    have e1 : IntKind.u64.wrap (IntKind.u64.wrap v * 2) = (((2 * v).toNat : Nat) : Int) := by
      rw [IntKind.wrap_u64, IntKind.wrap_u64]; omega
    have e2 : IntKind.u64.wrap (v / 9223372036854775808) = ((0 : Nat) : Int) := by
      rw [IntKind.wrap_u64]; omega
    rw [e1, e2, bits_xor_u64_nat _ _ (by omega) (by decide), Nat.xor_zero]
    omega

theorem zag_bits (u : Int) (h : 0 ≤ u ∧ u ≤ 18446744073709551615) :
    bits .xor .i64 (u / 2) (wrap64 (-wrap64 (bits .and .u64 u 1))) = zagI u := by
  unfold zagI
  rw [Lib.u64_and1 u h.1 (by omega)]
  rcases (show u % 2 = 0 ∨ u % 2 = 1 by omega) with h2 | h2
  · rw [h2, if_neg (by omega)]
    rw [show wrap64 (-wrap64 0) = 0 by unfold wrap64; omega]
    obtain ⟨k, hk⟩ := Int.eq_ofNat_of_zero_le (show 0 ≤ u / 2 by omega)
    rw [hk]
    show IntKind.i64.wrap ((BitVec.ofInt 64 (k : Int) ^^^ BitVec.ofInt 64 0).toNat : Int) = _
    rw [BitVec.toNat_xor, BitVec.ofInt_natCast, BitVec.toNat_ofNat, Nat.mod_eq_of_lt (by omega), show (BitVec.ofInt 64 0).toNat = 0 by decide, Nat.xor_zero, IntKind.wrap_i64]
    omega
  · rw [h2, if_pos rfl]
    rw [show wrap64 (-wrap64 1) = -1 by unfold wrap64; omega]
    obtain ⟨k, hk⟩ := Int.eq_ofNat_of_zero_le (show 0 ≤ u / 2 by omega)
    rw [hk]
    show IntKind.i64.wrap ((BitVec.ofInt 64 (k : Int) ^^^ BitVec.ofInt 64 (-1)).toNat : Int) = _
    have h1 : (BitVec.ofInt 64 (-1)).toNat = 2 ^ 64 - 1 := by decide
    rw [BitVec.toNat_xor, h1, BitVec.ofInt_natCast, BitVec.toNat_ofNat, Nat.mod_eq_of_lt (by omega), Nat.xor_comm, Lib.xor_ones64 k (by omega), IntKind.wrap_i64]
    omega

theorem zig_any (v : Int) (w : World) (h : -9223372036854775808 ≤ v ∧ v ≤ 9223372036854775807) :
    Calls Try.prog 28 #[.int .i64 v] w fun e w' => e = .returned (.int .u64 (zigI v)) ∧ w = w' := by
  have hz := zig_bits v h
  obtain ⟨h1, h2⟩ := h
  have HZ := Lib.hid hz
  clear hz
  go_enter Try.func28, Try.ntmps28
  go_wp2
  go_ret
  exact ⟨congrArg Ending.returned (congrArg (Value.int .u64) HZ.out), rfl⟩

theorem zag_any (u : Int) (w : World) (h : 0 ≤ u ∧ u ≤ 18446744073709551615) :
    Calls Try.prog 27 #[.int .u64 u] w fun e w' => e = .returned (.int .i64 (zagI u)) ∧ w = w' := by
  have hz := zag_bits u h
  obtain ⟨h1, h2⟩ := h
  have HZ := Lib.hid hz
  clear hz
  go_enter Try.func27, Try.ntmps27
  go_wp2
  go_ret
  exact ⟨congrArg Ending.returned (congrArg (Value.int .i64) HZ.out), rfl⟩

theorem rzig_any (v : Int) (w : World) (h : -9223372036854775808 ≤ v ∧ v ≤ 9223372036854775807) :
    Calls Try.prog 29 #[.int .i64 v] w fun e w' => e = .returned (.int .u64 (zigI v)) ∧ w = w' := by
  obtain ⟨h1, h2⟩ := h
  by_cases hn : v < 0
  all_goals
    go_enter Try.func29, Try.ntmps29
    go_wp2
    go_ret
    refine ⟨congrArg Ending.returned (congrArg (Value.int .u64) ?_), rfl⟩
    unfold zigI
    omega

theorem rzag_any (u : Int) (w : World) (h : 0 ≤ u ∧ u ≤ 18446744073709551615) :
    Calls Try.prog 30 #[.int .u64 u] w fun e w' => e = .returned (.int .i64 (zagI u)) ∧ w = w' := by
  obtain ⟨h1, h2⟩ := h
  by_cases hn : u % 2 = 1
  · have t : (u % 2 == 1) = true := by simp [hn]
    have HN := Lib.hid hn
    clear hn
    go_enter Try.func30, Try.ntmps30
    go_wp2
    go_ret
    refine ⟨congrArg Ending.returned (congrArg (Value.int .i64) ?_), rfl⟩
    unfold zagI
    rw [if_pos HN.out]
  · have t : (u % 2 == 1) = false := by simp [hn]
    have HN := Lib.hid hn
    clear hn
    go_enter Try.func30, Try.ntmps30
    go_wp2
    go_ret
    refine ⟨congrArg Ending.returned (congrArg (Value.int .i64) ?_), rfl⟩
    unfold zagI
    rw [if_neg HN.out]

/-! ### Wrap -/
/-- The low n bits of v in two's complement; 0 where there is no such width. -/
def wrapN (v n : Nat) : Int := if v % 2 ^ n < 2 ^ (n - 1) then ((v % 2 ^ n : Nat) : Int) else ((v % 2 ^ n : Nat) : Int) - ((2 ^ n : Nat) : Int)
def wrapI (v : Nat) (n : Int) : Int := if 1 ≤ n ∧ n ≤ 64 then wrapN v n.toNat else 0

theorem wrap_bits (v n : Nat) (h1 : 1 ≤ n) (h2 : n ≤ 64) : IntKind.i64.wrap (IntKind.u64.wrap ((v : Int) * 2 ^ (64 - n))) / 2 ^ (64 - n) = wrapN v n := by
  have hPQ : 2 ^ n * 2 ^ (64 - n) = 18446744073709551616 := by
    rw [← Nat.pow_add, show n + (64 - n) = 64 by omega]
  have hQ : 2 ^ n = 2 * 2 ^ (n - 1) := by
    rw [← Nat.pow_succ', show (n - 1).succ = n by omega]
  have hP : 0 < 2 ^ (64 - n) := Nat.two_pow_pos _
  have hm : v % 2 ^ n < 2 ^ n := Nat.mod_lt _ (Nat.two_pow_pos _)
  have hv : v * 2 ^ (64 - n) = (v % 2 ^ n) * 2 ^ (64 - n) + 18446744073709551616 * (v / 2 ^ n) := by
    rw [← hPQ]
    conv => lhs; rw [← Nat.mod_add_div v (2 ^ n)]
    rw [Nat.add_mul, Nat.mul_right_comm]
  have hc : ((v : Int) * 2 ^ (64 - n)) = ((v * 2 ^ (64 - n) : Nat) : Int) := by simp
  unfold wrapN
  rw [hc, hv]
  generalize hM : v % 2 ^ n = m at *
  generalize hPP : 2 ^ (64 - n) = p at *
  have hcp : ((2 : Int) ^ (64 - n)) = (p : Int) := by rw [← hPP]; simp
  rw [hcp]
  generalize hqq : 2 ^ (n - 1) = q at *
  rw [hQ] at hPQ hm ⊢
  have e0 : IntKind.u64.wrap (((m * p + 18446744073709551616 * (v / (2 * q)) : Nat)) : Int) = ((m * p : Nat) : Int) := by
    have : m * p < 18446744073709551616 := by
      rw [← hPQ]; exact Nat.mul_lt_mul_of_pos_right hm hP
    rw [IntKind.wrap_u64]; omega
  rw [e0]
  have hqp : q * p = 9223372036854775808 := by
    have : 2 * q * p = 2 * (q * p) := by rw [Nat.mul_assoc]
    omega
  by_cases hlt : m < q
  · rw [if_pos hlt]
    have hx : m * p < 9223372036854775808 := by rw [← hqp]; exact Nat.mul_lt_mul_of_pos_right hlt hP
    rw [IntWalk.i64_in _ (by omega)]
    push_cast
    exact Int.mul_ediv_cancel _ (by omega)
  · rw [if_neg hlt]
    have hx : 9223372036854775808 ≤ m * p := by rw [← hqp]; exact Nat.mul_le_mul_right _ (by omega)
    have hy : m * p < 18446744073709551616 := by
      rw [← hPQ]; exact Nat.mul_lt_mul_of_pos_right hm hP
    have e1 : IntKind.i64.wrap ((m * p : Nat) : Int) = ((m : Int) - ((2 * q : Nat) : Int)) * (p : Int) := by
      rw [IntKind.wrap_i64, Int.sub_mul]
      have a1 : ((2 * q : Nat) : Int) * (p : Int) = ((2 * q * p : Nat) : Int) := by push_cast; rfl
      have a2 : (m : Int) * (p : Int) = ((m * p : Nat) : Int) := by push_cast; rfl
      rw [a1, a2, hPQ]
      omega
    rw [e1]
    exact Int.mul_ediv_cancel _ (by omega)

theorem wrap_any (v : Nat) (n : Int) (w : World) (hv : v < 18446744073709551616) (hn : -9223372036854775808 ≤ n ∧ n ≤ 9223372036854775807) :
    Calls Try.prog 31 #[.int .u64 (v : Int), .int .i64 n] w fun e w' => e = .returned (.int .i64 (wrapI v n)) ∧ w = w' := by
  obtain ⟨hn1, hn2⟩ := hn
  by_cases h : 1 ≤ n ∧ n ≤ 64
  · obtain ⟨k, rfl⟩ := Int.eq_ofNat_of_zero_le (show 0 ≤ n by omega)
    obtain ⟨h1, h2⟩ := h
    have e : wrapI v (k : Int) = wrapN v k := by unfold wrapI; rw [if_pos ⟨h1, h2⟩, Int.toNat_natCast]
    have hw := wrap_bits v k (by omega) (by omega)
    rw [e]
    rw [IntWalk.i64_left] at hw
    have HW := Lib.hid hw
    clear hw e
    go_enter Try.func31, Try.ntmps31
    go_wp2
    go_ret
    exact ⟨congrArg Ending.returned (congrArg (Value.int .i64) HW.out), rfl⟩
  · have e : wrapI v n = 0 := by unfold wrapI; rw [if_neg h]
    rw [e]
    clear e
    by_cases h1 : n < 1
    all_goals
      go_enter Try.func31, Try.ntmps31
      go_wp2
      go_ret
      exact ⟨rfl, rfl⟩

theorem two_pow_le (j : Nat) (h : j ≤ 63) : 1 ≤ 2 ^ j ∧ 2 ^ j ≤ 9223372036854775808 :=
  ⟨Nat.two_pow_pos _, Nat.pow_le_pow_right (by omega) h⟩
theorem two_pow_dbl (k : Nat) (h : 1 ≤ k) : 2 ^ k = 2 * 2 ^ (k - 1) := by rw [← Nat.pow_succ', show (k - 1).succ = k by omega]

theorem wrapN_hi (v j q : Nat) (hq : 2 ^ (j - 1) = q) (h2 : 2 ^ j = 2 * q) (h : (q : Int) ≤ (v : Int) % (2 * (q : Int))) : wrapN v j = (v : Int) % (2 * (q : Int)) - 2 * (q : Int) := by
  unfold wrapN
  rw [h2, hq]
  have e : (v : Int) % (2 * (q : Int)) = ((v % (2 * q) : Nat) : Int) := by simp
  rw [e] at h ⊢
  rw [if_neg (by omega)]
  simp
theorem wrapN_lo (v j q : Nat) (hq : 2 ^ (j - 1) = q) (h2 : 2 ^ j = 2 * q) (h : (v : Int) % (2 * (q : Int)) < (q : Int)) : wrapN v j = (v : Int) % (2 * (q : Int)) := by
  unfold wrapN
  rw [h2, hq]
  have e : (v : Int) % (2 * (q : Int)) = ((v % (2 * q) : Nat) : Int) := by simp
  rw [e] at h ⊢
  rw [if_pos (by omega)]

theorem rwrap_any (v : Nat) (n : Int) (w : World) (hv : v < 18446744073709551616) (hn : -9223372036854775808 ≤ n ∧ n ≤ 9223372036854775807) :
    Calls Try.prog 32 #[.int .u64 (v : Int), .int .i64 n] w fun e w' => e = .returned (.int .i64 (wrapI v n)) ∧ w = w' := by
  obtain ⟨hn1, hn2⟩ := hn
  by_cases h : 1 ≤ n ∧ n ≤ 64
  · obtain ⟨k, rfl⟩ := Int.eq_ofNat_of_zero_le (show 0 ≤ n by omega)
    obtain ⟨h1, h2⟩ := h
    have e : wrapI v (k : Int) = wrapN v k := by unfold wrapI; rw [if_pos ⟨h1, h2⟩, Int.toNat_natCast]
    rw [e]
    clear e
    go_enter Try.func32, Try.ntmps32
    go_wp2_with fail
    go_loop [5, 6] (fun x i => ∃ j : Nat, 1 ≤ j ∧ j ≤ k ∧ i = .int .i64 (j : Int) ∧ x = .int .u64 ((2 ^ (j - 1) : Nat) : Int)) (fun _ i => k - (intOf i).toNat)
    case atStart => exact ⟨1, by omega, by omega, rfl, rfl⟩
    case round =>
      obtain ⟨j, hj1, hj2, rfl, rfl⟩ := hrel
      by_cases hlt : j < k
      · have hb := two_pow_le (j - 1) (by omega)
        have hb2 := two_pow_le j (by omega)
        have hd := two_pow_dbl j hj1
        have HD := Lib.hid hd
        clear hd
        obtain ⟨b1, b2⟩ := hb
        obtain ⟨b3, b4⟩ := hb2
        have b5 : 2 ^ (j - 1) ≤ 4611686018427387904 := by have := HD.out; omega
        generalize hq : 2 ^ (j - 1) = q at *
        have HQ := Lib.hid hq
        clear hq
        go_wp2_with fail
        go_round
        case rel => exact ⟨j + 1, by omega, by omega, by go_num, by rw [Nat.add_sub_cancel, HD.out]; go_num⟩
        case measure => simp [intOf]; omega
      · obtain rfl : j = k := by omega
        have hb := two_pow_le (j - 1) (by omega)
        have hd := two_pow_dbl j hj1
        obtain ⟨b1, b2⟩ := hb
        have HD := Lib.hid hd
        clear hd
        generalize hq : 2 ^ (j - 1) = q at *
        have HQ := Lib.hid hq
        clear hq
        by_cases hj64 : j < 64
        · have hq62 : q ≤ 4611686018427387904 := by have := (two_pow_le (j - 1 + 1) (by omega)).2; rw [Nat.pow_succ] at this; have := HQ.out; omega
          have m0 : 0 ≤ (v : Int) % (2 * (q : Int)) := Int.emod_nonneg _ (by omega)
          have m1 : (v : Int) % (2 * (q : Int)) < 2 * (q : Int) := Int.emod_lt_of_pos _ (by omega)
          go_wp2_with fail
          · go_ret
            exact ⟨congrArg Ending.returned (congrArg (Value.int .i64) (by rw [wrapN_hi v j q HQ.out HD.out ‹_›]; omega)), rfl⟩
          · go_ret
            exact ⟨congrArg Ending.returned (congrArg (Value.int .i64) (by rw [wrapN_lo v j q HQ.out HD.out ‹_›])), rfl⟩
        · obtain rfl : j = 64 := by omega
          have b6 : 9223372036854775808 ≤ q := by have := HQ.out; omega
          have m0 : (v : Int) % (2 * (q : Int)) = v := Int.emod_eq_of_lt (by omega) (by omega)
          have M0 := Lib.hid m0
          clear m0
          by_cases hvq : (q : Int) ≤ (v : Int)
          · go_wp2_with fail
            go_ret
            exact ⟨congrArg Ending.returned (congrArg (Value.int .i64) (by rw [wrapN_hi v 64 q HQ.out HD.out (by rw [M0.out]; exact hvq), M0.out]; omega)), rfl⟩
          · go_wp2_with fail
            go_ret
            exact ⟨congrArg Ending.returned (congrArg (Value.int .i64) (by rw [wrapN_lo v 64 q HQ.out HD.out (by rw [M0.out]; omega), M0.out])), rfl⟩
  · have e : wrapI v n = 0 := by unfold wrapI; rw [if_neg h]
    rw [e]
    clear e
    by_cases h1 : n < 1
    all_goals
      go_enter Try.func32, Try.ntmps32
      go_wp2
      go_ret
      exact ⟨rfl, rfl⟩
end Go.Proofs.Ytpbffcmmhffdcaa
