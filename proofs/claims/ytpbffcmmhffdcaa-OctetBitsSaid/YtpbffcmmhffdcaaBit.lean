/-
  Own work. Contracts of package octet's Bit and SetBit.
-/
import Derived.Test.YtpbffcmmhffdcaaOct
namespace Go.Proofs.Ytpbffcmmhffdcaa
open Go.RowKit
set_option linter.unusedVariables false

/-! ### Bits of a byte -/
def bitOf (z : UInt8) (j : Nat) : Bool := decide (z.toNat / 2 ^ j % 2 = 1)
def bitSet (z : UInt8) (j : Nat) (on : Bool) : UInt8 :=
  if on then (if bitOf z j then z else UInt8.ofNat (z.toNat + 2 ^ j)) else (if bitOf z j then UInt8.ofNat (z.toNat - 2 ^ j) else z)

theorem bit_same (z : UInt8) (j : Nat) (on : Bool) (hj : j < 8) : bitOf (bitSet z j on) j = on := by
  have all : ∀ (z : Fin 256) (j : Fin 8) (on : Bool), bitOf (bitSet (UInt8.ofNat z.val) j.val on) j.val = on := by decide +kernel
  have := all ⟨z.toNat, z.toNat_lt⟩ ⟨j, hj⟩ on
  simpa using this
theorem bit_other (z : UInt8) (j k : Nat) (on : Bool) (hj : j < 8) (hk : k < 8) (hne : j ≠ k) : bitOf (bitSet z j on) k = bitOf z k := by
  have all : ∀ (z : Fin 256) (j k : Fin 8) (on : Bool), j ≠ k → bitOf (bitSet (UInt8.ofNat z.val) j.val on) k.val = bitOf (UInt8.ofNat z.val) k.val := by decide +kernel
  have := all ⟨z.toNat, z.toNat_lt⟩ ⟨j, hj⟩ ⟨k, hk⟩ on (by simpa using hne)
  simpa using this

theorem or_set (z : UInt8) (j : Nat) (hj : j < 8) : bits .or .u8 (z.toNat : Int) (2 ^ j) = ((bitSet z j true).toNat : Int) := by
  have all : ∀ (z : Fin 256) (j : Fin 8), bits .or .u8 (z.val : Int) (2 ^ j.val) = ((bitSet (UInt8.ofNat z.val) j.val true).toNat : Int) := by decide +kernel
  have := all ⟨z.toNat, z.toNat_lt⟩ ⟨j, hj⟩
  simpa using this
theorem andNot_set (z : UInt8) (j : Nat) (hj : j < 8) : bits .andNot .u8 (z.toNat : Int) (2 ^ j) = ((bitSet z j false).toNat : Int) := by
  have all : ∀ (z : Fin 256) (j : Fin 8), bits .andNot .u8 (z.val : Int) (2 ^ j.val) = ((bitSet (UInt8.ofNat z.val) j.val false).toNat : Int) := by decide +kernel
  have := all ⟨z.toNat, z.toNat_lt⟩ ⟨j, hj⟩
  simpa using this

/-! ### Bits of bytes -/
def bitE (l : List UInt8) (i : Int) : Int := if 0 ≤ i ∧ i / 8 < l.length then 0 else 1
def bitV (l : List UInt8) (i : Int) : Bool := if bitE l i = 0 then bitOf (l.getD (i / 8).toNat 0) (i % 8).toNat else false
def setL (l : List UInt8) (i : Int) (on : Bool) : List UInt8 := if bitE l i = 0 then l.set (i / 8).toNat (bitSet (l.getD (i / 8).toNat 0) (i % 8).toNat on) else []

theorem hasBit_yes (A : Option Addr) (n c I : Nat) (w : World) (h : I / 8 < n) (hn : n ≤ 1073741824) (hI : (I : Int) ≤ 9223372036854775807) :
    Calls Try.prog 41 #[.slice A n c, .int .i64 (I : Int)] w fun e w' => e = .returned (.bool true) ∧ w = w' := by
  have h' : ((I / 8 : Nat) : Int) < n := by omega
  go_enter Try.func41, Try.ntmps41
  go_wp2
  all_goals go_ret
  all_goals first | exact ⟨rfl, rfl⟩ | (simp; omega)
theorem hasBit_no (A : Option Addr) (n c : Nat) (i : Int) (w : World) (h : i < 0 ∨ (n : Int) ≤ i / 8) (hn : n ≤ 1073741824) (hi : -9223372036854775808 ≤ i ∧ i ≤ 9223372036854775807) :
    Calls Try.prog 41 #[.slice A n c, .int .i64 i] w fun e w' => e = .returned (.bool false) ∧ w = w' := by
  obtain ⟨i1, i2⟩ := hi
  by_cases hneg : i < 0
  · clear h
    go_enter Try.func41, Try.ntmps41
    go_wp2
    all_goals go_ret
    all_goals first | exact ⟨rfl, rfl⟩ | (simp; omega)
  · have h0 : 0 ≤ i := by omega
    have h1 : (n : Int) ≤ i / 8 := by omega
    clear h
    go_enter Try.func41, Try.ntmps41
    go_wp2
    all_goals go_ret
    all_goals first | exact ⟨rfl, rfl⟩ | (simp; omega)

theorem pow_mod (j : Nat) (hj : j < 8) : (2 : Int) ^ j % 256 = 2 ^ j := by
  have all : ∀ j : Fin 8, (2 : Int) ^ j.val % 256 = 2 ^ j.val := by decide
  exact all ⟨j, hj⟩

theorem bit_test (z : UInt8) (j : Nat) : (bits .and .u8 ((z.toNat : Int) / 2 ^ j) 1 == 1) = bitOf z j := by
  have h8 := z.toNat_lt
  have e : ((z.toNat : Int) / 2 ^ j) = ((z.toNat / 2 ^ j : Nat) : Int) := by simp
  have hle : z.toNat / 2 ^ j ≤ z.toNat := Nat.div_le_self _ _
  have hle' : ((z.toNat / 2 ^ j : Nat) : Int) ≤ (z.toNat : Int) := by exact_mod_cast hle
  have h0 : 0 ≤ ((z.toNat / 2 ^ j : Nat) : Int) := Int.natCast_nonneg _
  have hm := bits_mask .u8 8 (by decide) wraps_u8 1 (by decide) ((z.toNat : Int) / 2 ^ j) (by rw [e]; exact h0) (by rw [e]; omega)
  rw [show (1 : Int) = 2 ^ 1 - 1 by decide, hm, e]
  unfold bitOf
  rw [Bool.eq_iff_iff]
  simp only [beq_iff_eq, decide_eq_true_eq]
  generalize z.toNat / 2 ^ j = q
  omega

theorem bit_any (A : Option Addr) (l : List UInt8) (n c : Nat) (i : Int) (w : World) (h : HasB w w.heap.size A n l) (hn : n ≤ 1073741824) (hi : -9223372036854775808 ≤ i ∧ i ≤ 9223372036854775807) :
    Calls Try.prog 33 #[.slice A n c, .int .i64 i] w fun e w' => e = .returned (.tuple #[.bool (bitV l i), .int .i64 (bitE l i)]) ∧ w = w' := by
  obtain ⟨hl, hm⟩ := h
  by_cases hb : 0 ≤ i ∧ i / 8 < l.length
  · have e1 : bitE l i = 0 := by unfold bitE; rw [if_pos hb]
    have e2 : bitV l i = bitOf (l.getD (i / 8).toNat 0) (i % 8).toNat := by unfold bitV; rw [e1, if_pos rfl]
    rw [e1, e2]
    obtain ⟨I, rfl⟩ := Int.eq_ofNat_of_zero_le hb.1
    obtain ⟨g, o, rfl, hg, hcell⟩ := hm (by omega)
    obtain ⟨z, hz⟩ : ∃ z, l[I / 8]? = some z := ⟨l[I / 8]'(by omega), List.getElem?_eq_getElem (by omega)⟩
    have hcc := hcell (I / 8) z hz
    have e3 : l.getD ((I : Int) / 8).toNat 0 = z := by
      rw [show ((I : Int) / 8).toNat = I / 8 by omega, List.getD, hz]; rfl
    have e4 : ((I : Int) % 8).toNat = I % 8 := by omega
    rw [e3, e4]
    have hz8 := z.toNat_lt
    have hI := hi.2
    have hlt : I / 8 < n := by omega
    clear e1 e2 e3 e4 hb hz hcell hm hl hi
    go_enter Try.func33, Try.ntmps33
    go_wp2_with (go_at_call 41; refine (hasBit_yes _ _ _ _ _ hlt hn hI).mono ?_; rintro e w' ⟨rfl, rfl⟩)
    go_ret2
    exact ⟨congrArg (fun b => Ending.returned (.tuple #[.bool b, .int .i64 0])) (bit_test z (I % 8)), rfl⟩
  · have e1 : bitE l i = 1 := by unfold bitE; rw [if_neg hb]
    have e2 : bitV l i = false := by unfold bitV; rw [e1]; rfl
    rw [e1, e2]
    have hno : i < 0 ∨ (n : Int) ≤ i / 8 := by omega
    clear e1 e2 hm hb
    have HN := Lib.hid hno
    clear hno hl
    go_enter Try.func33, Try.ntmps33
    go_wp2_with (go_at_call 41; refine (hasBit_no _ _ _ _ _ HN.out hn hi).mono ?_; rintro e w' ⟨rfl, rfl⟩)
    go_ret2
    exact ⟨rfl, rfl⟩

theorem setbit_any (A : Option Addr) (l : List UInt8) (n c : Nat) (i : Int) (on : Bool) (w : World) (h : HasB w w.heap.size A n l) (hn : n ≤ 1073741824) (hi : -9223372036854775808 ≤ i ∧ i ≤ 9223372036854775807) :
    Calls Try.prog 35 #[.slice A n c, .int .i64 i, .bool on] w (RetBE w (setL l i on) (bitE l i)) := by
  have hl := h.len
  by_cases hb : 0 ≤ i ∧ i / 8 < l.length
  · have e1 : bitE l i = 0 := by unfold bitE; rw [if_pos hb]
    have e2 : setL l i on = l.set (i / 8).toNat (bitSet (l.getD (i / 8).toNat 0) (i % 8).toNat on) := by unfold setL; rw [e1, if_pos rfl]
    rw [e1, e2]
    obtain ⟨I, rfl⟩ := Int.eq_ofNat_of_zero_le hb.1
    obtain ⟨z, hz⟩ : ∃ z, l[I / 8]? = some z := ⟨l[I / 8]'(by omega), List.getElem?_eq_getElem (by omega)⟩
    have e3 : l.getD ((I : Int) / 8).toNat 0 = z := by
      rw [show ((I : Int) / 8).toNat = I / 8 by omega, List.getD, hz]; rfl
    have e4 : ((I : Int) % 8).toNat = I % 8 := by omega
    have e5 : ((I : Int) / 8).toNat = I / 8 := by omega
    rw [e3, e4, e5]
    have hz8 := z.toNat_lt
    have hI := hi.2
    have hlt : I / 8 < n := by omega
    have HZ := Lib.hid hz
    have HL := Lib.hid hl
    clear e1 e2 e3 e4 e5 hb hz hl hi
    go_enter Try.func35, Try.ntmps35
    go_wp2_with (go_at_call 41; refine (hasBit_yes _ _ _ _ _ hlt hn hI).mono ?_; rintro e w' ⟨rfl, rfl⟩)
    refine (cwr_any A l n c 0 _ h (by omega)).mono ?_
    rintro e w1 ⟨A1, n1, c1, rfl, hown1, hb1⟩
    have hnn : n1 = n := by have := hown1.len; have := HL.out; omega
    subst hnn
    obtain ⟨g, rfl, hbg, hlt2, hcell⟩ := hown1.head (by omega)
    have hcc := hcell (I / 8) z HZ.out
    have hfz := hown1.frozen (I / 8)
    have hj : I % 8 < 8 := by omega
    clear hcell
    cases on
    · go_wp2_with fail
      go_ret2
      exact ⟨_, _, _, rfl, hown1.set_ (by rw [pow_mod _ hj]; exact andNot_set z (I % 8) hj), hb1.setCell (p := ⟨g, I / 8, none⟩) hbg _⟩
    · go_wp2_with fail
      go_ret2
      exact ⟨_, _, _, rfl, hown1.set_ (by rw [pow_mod _ hj]; exact or_set z (I % 8) hj), hb1.setCell (p := ⟨g, I / 8, none⟩) hbg _⟩
  · have e1 : bitE l i = 1 := by unfold bitE; rw [if_neg hb]
    have e2 : setL l i on = [] := by unfold setL; rw [e1]; rfl
    rw [e1, e2]
    have hno : i < 0 ∨ (n : Int) ≤ i / 8 := by omega
    clear e1 e2 hb
    have HN := Lib.hid hno
    clear hno hl
    go_enter Try.func35, Try.ntmps35
    go_wp2_with (go_at_call 41; refine (hasBit_no _ _ _ _ _ HN.out hn hi).mono ?_; rintro e w' ⟨rfl, rfl⟩)
    go_ret2
    exact ⟨none, 0, 0, rfl, OwnB.nil _ _, Below.refl _ _⟩
end Go.Proofs.Ytpbffcmmhffdcaa
