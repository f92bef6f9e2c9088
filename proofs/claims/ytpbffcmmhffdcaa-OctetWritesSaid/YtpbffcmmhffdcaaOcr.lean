/-
  Own work. Contracts of package octet's functions that read bytes, and of those on numbers.
-/
import Derived.Test.YtpbffcmmhffdcaaOct
namespace Go.Proofs.Ytpbffcmmhffdcaa
open Go.RowKit
set_option linter.unusedVariables false

/-! ### At -/
/-- The number that bytes make, the greatest first. -/
def num (l : List UInt8) : Nat := l.foldl (fun a b => a * 256 + b.toNat) 0
theorem num_snoc (l : List UInt8) (b : UInt8) : num (l ++ [b]) = num l * 256 + b.toNat := by simp [num]
theorem num_nil : num [] = 0 := rfl
theorem numFold_lt : ∀ (l : List UInt8) (a : Nat), l.foldl (fun a b => a * 256 + b.toNat) a < (a + 1) * 256 ^ l.length
  | [], a => by simp
  | b :: l, a => by
    rw [List.foldl_cons, List.length_cons, Nat.pow_succ]
    have h := numFold_lt l (a * 256 + b.toNat)
    have hb := b.toNat_lt
    have : (a * 256 + b.toNat + 1) * 256 ^ l.length ≤ ((a + 1) * 256) * 256 ^ l.length := Nat.mul_le_mul_right _ (by omega)
    rw [Nat.mul_assoc, Nat.mul_comm 256] at this
    omega
theorem num_lt (l : List UInt8) : num l < 256 ^ l.length := by simpa [num] using numFold_lt l 0
theorem take_snoc' (l : List UInt8) (j : Nat) (b : UInt8) (h : l[j]? = some b) : l.take (j + 1) = l.take j ++ [b] := by
  rw [List.take_add_one, h]; rfl
theorem at_some (l : List UInt8) (j : Nat) (h : j < l.length) : ∃ b, l[j]? = some b := ⟨l[j], List.getElem?_eq_getElem h⟩
theorem num_take_lt (l : List UInt8) (j : Nat) (h : j ≤ 7) : num (l.take j) < 72057594037927936 := by
  have h1 := num_lt (l.take j)
  have h2 : (l.take j).length ≤ 7 := by rw [List.length_take]; omega
  have h3 : 256 ^ (l.take j).length ≤ 256 ^ 7 := Nat.pow_le_pow_right (by omega) h2
  omega
def atE (l : List UInt8) (p n : Int) : Int := if 1 ≤ n ∧ n ≤ 8 ∧ 0 ≤ p then (if p + n ≤ l.length then 0 else 3) else 1
def atV (l : List UInt8) (p n : Int) : Nat := if atE l p n = 0 then num ((l.drop p.toNat).take n.toNat) else 0

theorem or_join (N b : Nat) (hN : N ≤ 72057594037927935) (hb : b < 256) : bits .or .u64 ((N : Int) * 256) (b : Int) = ((N * 256 + b : Nat) : Int) := by
  rw [bits_join .u64 64 (by decide) wraps_u64 8 _ _ (by omega) (by omega) (by omega) (by omega) (by omega) (by omega)]
  omega

theorem at_ok (A : Option Addr) (l : List UInt8) (n c p k : Nat) (w : World) (h : HasB w w.heap.size A n l) (hn : n ≤ 1073741824) (hc : n ≤ c) (hc2 : c ≤ maxLen) (hk1 : 1 ≤ k) (hk8 : k ≤ 8) (hfit : p + k ≤ n) :
    Calls Try.prog 21 #[.slice A n c, .int .i64 (p : Int), .int .i64 (k : Int)] w fun e w' => e = .returned (.tuple #[.int .u64 (num ((l.drop p).take k) : Nat), .int .i64 0]) ∧ w = w' := by
  obtain ⟨hl, hm⟩ := h
  obtain ⟨g, o, rfl, hg, hcell⟩ := hm (by omega)
  unfold maxLen at hc2
  have HL := Lib.hid hl
  have HC := Lib.hid hcell
  clear hl hm hcell
  go_enter Try.func21, Try.ntmps21
  go_wp2_with (first
    | (go_at_call 37; refine (mayWidth_yes _ _ (by omega) (by omega)).mono ?_; rintro e w' ⟨rfl, rfl⟩))
  go_loop [8, 31] (fun x i => ∃ j : Nat, j ≤ k ∧ i = .int .i64 (j : Int) ∧ x = .int .u64 ((num ((l.drop p).take j) : Nat) : Int)) (fun _ i => k - (intOf i).toNat)
  case atStart => exact ⟨0, by omega, rfl, rfl⟩
  case round =>
    obtain ⟨j, hj, rfl, rfl⟩ := hrel
    by_cases hlt : j < k
    · obtain ⟨b, hb⟩ := at_some l (p + j) (by have := HL.out; omega)
      have hbb : (l.drop p)[j]? = some b := by rw [List.getElem?_drop]; exact hb
      have hn1 := num_take_lt (l.drop p) j (by omega)
      have hn2 : num ((l.drop p).take (j + 1)) = num ((l.drop p).take j) * 256 + b.toNat := by rw [take_snoc' _ _ _ hbb, num_snoc]
      have HN := Lib.hid hn2
      have hbl := b.toNat_lt
      have hcc : w.cell? ⟨g, o + p + j, none⟩ = some (.int .u8 (b.toNat : Int)) := by rw [Nat.add_assoc]; exact HC.out (p + j) b hb
      clear hb hbb hn2
      generalize num ((l.drop p).take j) = N at *
      go_wp2_with fail
      go_round
      case rel => exact ⟨j + 1, by omega, by go_num, by rw [or_join N b.toNat (by omega) hbl, ← HN.out]⟩
      case measure => simp [intOf]; omega
    · go_wp2_with fail
      obtain rfl : j = k := by omega
      go_ret2
      exact ⟨rfl, rfl⟩
theorem at_any (A : Option Addr) (l : List UInt8) (n c : Nat) (p k : Int) (w : World) (h : HasB w w.heap.size A n l) (hn : n ≤ 1073741824) (hc : n ≤ c) (hc2 : c ≤ maxLen) (hp : -9223372036854775808 ≤ p ∧ p ≤ 9223372036854775807) (hk : -9223372036854775808 ≤ k ∧ k ≤ 9223372036854775807) :
    Calls Try.prog 21 #[.slice A n c, .int .i64 p, .int .i64 k] w fun e w' => e = .returned (.tuple #[.int .u64 (atV l p k : Nat), .int .i64 (atE l p k)]) ∧ w = w' := by
  have hl := h.len
  obtain ⟨hp1, hp2⟩ := hp
  obtain ⟨hk1, hk2⟩ := hk
  by_cases hw : 1 ≤ k ∧ k ≤ 8
  · by_cases hp0 : 0 ≤ p
    · by_cases hfit : p + k ≤ n
      · have e1 : atE l p k = 0 := by unfold atE; rw [if_pos ⟨hw.1, hw.2, hp0⟩, if_pos (by omega)]
        have e2 : atV l p k = num ((l.drop p.toNat).take k.toNat) := by unfold atV; rw [e1, if_pos rfl]
        rw [e1, e2]
        obtain ⟨P, rfl⟩ := Int.eq_ofNat_of_zero_le hp0
        obtain ⟨K, rfl⟩ := Int.eq_ofNat_of_zero_le (show 0 ≤ k by omega)
        exact at_ok A l n c P K w h hn hc hc2 (by omega) (by omega) (by omega)
      · have e1 : atE l p k = 3 := by unfold atE; rw [if_pos ⟨hw.1, hw.2, hp0⟩, if_neg (by omega)]
        have e2 : atV l p k = 0 := by unfold atV; rw [e1]; rfl
        rw [e1, e2]
        obtain ⟨hw1, hw2⟩ := hw
        clear hl e1 e2 h
        go_enter Try.func21, Try.ntmps21
        go_wp2_with (go_at_call 37; refine (mayWidth_yes _ _ hw1 hw2).mono ?_; rintro e w' ⟨rfl, rfl⟩)
        go_ret2
        exact ⟨rfl, rfl⟩
    · have e1 : atE l p k = 1 := by unfold atE; rw [if_neg (by omega)]
      have e2 : atV l p k = 0 := by unfold atV; rw [e1]; rfl
      rw [e1, e2]
      obtain ⟨hw1, hw2⟩ := hw
      clear hl e1 e2 h
      go_enter Try.func21, Try.ntmps21
      go_wp2_with (go_at_call 37; refine (mayWidth_yes _ _ hw1 hw2).mono ?_; rintro e w' ⟨rfl, rfl⟩)
      go_ret2
      exact ⟨rfl, rfl⟩
  · have e1 : atE l p k = 1 := by unfold atE; rw [if_neg (by omega)]
    have e2 : atV l p k = 0 := by unfold atV; rw [e1]; rfl
    rw [e1, e2]
    have HW := Lib.hid hw
    clear hl e1 e2 h hw
    go_enter Try.func21, Try.ntmps21
    go_wp2_with (go_at_call 37; refine (mayWidth_no _ _ ⟨hk1, hk2⟩ HW.out).mono ?_; rintro e w' ⟨rfl, rfl⟩)
    go_ret2
    exact ⟨rfl, rfl⟩
end Go.Proofs.Ytpbffcmmhffdcaa
