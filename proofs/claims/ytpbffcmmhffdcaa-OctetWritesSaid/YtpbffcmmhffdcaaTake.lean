/-
  Own work. Contracts of TakeCount and TakeText, of package octet and of the document's answer.
-/
import Derived.Test.YtpbffcmmhffdcaaOcr
namespace Go.Proofs.Ytpbffcmmhffdcaa
open Go.RowKit
set_option linter.unusedVariables false
set_option linter.unusedSimpArgs false

/-- What a count at a list's beginning is: the number, how many bytes it takes, the error; so many bytes, and so much, lie behind. -/
def tcS : List UInt8 → Nat → Nat → Nat × Nat × Int
  | [], _, _ => (0, 0, 3)
  | c :: l, i, a =>
    if (i = 9 ∧ 1 < c.toNat) ∨ (0 < i ∧ c.toNat = 0) then (0, 0, 4)
    else if c.toNat < 128 then (a + c.toNat * 128 ^ i, i + 1, 0)
    else tcS l (i + 1) (a + (c.toNat - 128) * 128 ^ i)

theorem tcS_nil (i a : Nat) : tcS [] i a = (0, 0, 3) := rfl
theorem tcS_bad {c : UInt8} {l : List UInt8} {i a : Nat} (h : (i = 9 ∧ 1 < c.toNat) ∨ (0 < i ∧ c.toNat = 0)) : tcS (c :: l) i a = (0, 0, 4) := by rw [tcS, if_pos h]
theorem tcS_end {c : UInt8} {l : List UInt8} {i a : Nat} (h : ¬ ((i = 9 ∧ 1 < c.toNat) ∨ (0 < i ∧ c.toNat = 0))) (h2 : c.toNat < 128) : tcS (c :: l) i a = (a + c.toNat * 128 ^ i, i + 1, 0) := by rw [tcS, if_neg h, if_pos h2]
theorem tcS_on {c : UInt8} {l : List UInt8} {i a : Nat} (h : ¬ ((i = 9 ∧ 1 < c.toNat) ∨ (0 < i ∧ c.toNat = 0))) (h2 : ¬ c.toNat < 128) : tcS (c :: l) i a = tcS l (i + 1) (a + (c.toNat - 128) * 128 ^ i) := by rw [tcS, if_neg h, if_neg h2]

theorem drop_cons (l : List UInt8) (j : Nat) (b : UInt8) (h : l[j]? = some b) : l.drop j = b :: l.drop (j + 1) := by
  obtain ⟨hj, rfl⟩ := List.getElem?_eq_some_iff.1 h
  exact List.drop_eq_getElem_cons hj

theorem pow_128 (k : Nat) : 128 ^ k = 2 ^ (7 * k) := by rw [Nat.pow_mul]
theorem pow_128_le (k : Nat) (h : k ≤ 9) : 1 ≤ 128 ^ k ∧ 128 ^ k ≤ 9223372036854775808 :=
  ⟨Nat.pow_pos (by omega), Nat.pow_le_pow_right (i := k) (j := 9) (by omega) h⟩

theorem andNot128 (b : Nat) (h : b < 256) : bits .andNot .u8 (b : Int) 128 = ((b % 128 : Nat) : Int) := by
  have all : ∀ z : Fin 256, bits .andNot .u8 (z.val : Int) 128 = ((z.val % 128 : Nat) : Int) := by decide +kernel
  exact all ⟨b, h⟩
theorem or_piece (a b j : Nat) (ha : a < 128 ^ j) (hj : j ≤ 9) (hb : b < 256) (hjb : j = 9 → b ≤ 1) :
    bits .or .u64 (a : Int) (IntKind.u64.wrap (IntKind.u64.wrap (bits .andNot .u8 (b : Int) 128) * 2 ^ (7 * j))) = ((a + (b % 128) * 128 ^ j : Nat) : Int) := by
  have hq := pow_128_le j hj
  have hm : (b % 128) * 128 ^ j < 18446744073709551616 := by
    by_cases h9 : j = 9
    · have := hjb h9
      have : b % 128 ≤ 1 := by omega
      have h2 := Nat.mul_le_mul_right (128 ^ j) this
      omega
    · have h8 : 128 ^ j ≤ 72057594037927936 := Nat.pow_le_pow_right (i := j) (j := 8) (by omega) (by omega)
      have : b % 128 ≤ 127 := by omega
      have h2 := Nat.mul_le_mul this h8
      omega
  have e1 : IntKind.u64.wrap ((b % 128 : Nat) : Int) = ((b % 128 : Nat) : Int) := IntWalk.u64_in _ (by omega)
  have e2 : ((b % 128 : Nat) : Int) * 2 ^ (7 * j) = (((b % 128) * 128 ^ j : Nat) : Int) := by rw [pow_128]; simp
  rw [andNot128 b hb, e1, e2, IntWalk.u64_in _ (by omega), u64_or_nat a _ (by omega) hm]
  rw [pow_128] at ha ⊢
  rw [Nat.or_comm, Nat.mul_comm (b % 128), ← Nat.two_pow_add_eq_or_of_lt ha, Nat.add_comm]

/-- The answer of a TakeCount. -/
def tcRet (r : Nat × Nat × Int) : Ending := .returned (.tuple #[.int .u64 (r.1 : Int), .int .i64 (r.2.1 : Int), .int .i64 r.2.2])

set_option maxRecDepth 100000 in
set_option maxHeartbeats 1000000 in
theorem takeCount_any (A : Option Addr) (l : List UInt8) (n c : Nat) (w : World) (h : HasB w w.heap.size A n l) (hn : n ≤ 1073741824) :
    Calls Try.prog 23 #[.slice A n c] w fun e w' => e = tcRet (tcS l 0 0) ∧ w = w' := by
  obtain ⟨hl, hm⟩ := h
  have HL := Lib.hid hl
  have HM := Lib.hid hm
  clear hl hm
  go_enter Try.func23, Try.ntmps23
  go_wp2_with fail
  go_loop [5, 10] (fun x y => ∃ j a : Nat, j ≤ n ∧ j ≤ 9 ∧ a < 128 ^ j ∧ x = .int .u64 (a : Int) ∧ y = .int .i64 (j : Int) ∧ tcS (l.drop j) j a = tcS l 0 0) (fun _ y => n - (intOf y).toNat)
  case atStart => exact ⟨0, 0, by omega, by omega, by simp, rfl, rfl, rfl⟩
  case round =>
    obtain ⟨j, a, hj, hj9, ha, rfl, rfl, ht⟩ := hrel
    by_cases hlt : j < n
    · obtain ⟨g, o, rfl, hg, hcell⟩ := HM.out (by omega)
      obtain ⟨b, hb⟩ := at_some l j (by have := HL.out; omega)
      have hcc := hcell j b hb
      have hbl := b.toNat_lt
      rw [drop_cons l j b hb] at ht
      clear hcell hb
      by_cases hbad : (j = 9 ∧ 1 < b.toNat) ∨ (0 < j ∧ b.toNat = 0)
      · rw [tcS_bad hbad] at ht
        have HT := Lib.hid ht
        clear ht ha
        rcases hbad with ⟨rfl, h1⟩ | ⟨h0, h1⟩
        · go_wp2_with fail
          go_ret3
          rw [← HT.out]
          exact ⟨rfl, rfl⟩
        · have hb0 : ((b.toNat : Int) == 0) = true := by simp; omega
          by_cases h9 : j = 9
          · subst h9
            go_wp2_with fail
            go_ret3
            rw [← HT.out]
            exact ⟨rfl, rfl⟩
          · have hn9 : ((j : Int) == 9) = false := by simp; omega
            go_wp2_with fail
            go_ret3
            rw [← HT.out]
            exact ⟨rfl, rfl⟩
      · by_cases hsm : b.toNat < 128
        · rw [tcS_end hbad hsm] at ht
          have HT := Lib.hid ht
          have HA := Lib.hid ha
          clear ht ha
          by_cases h9 : j = 9
          · subst h9
            have h1 : b.toNat = 1 := by omega
            clear hbad
            go_wp2_with fail
            go_ret3
            rw [← HT.out]
            exact ⟨congrArg (fun x => Ending.returned (.tuple #[.int .u64 x, .int .i64 10, .int .i64 0])) (by have := or_piece a 1 9 HA.out (by omega) (by omega) (by omega); rw [h1]; simpa using this), rfl⟩
          · have hn9 : ((j : Int) == 9) = false := by simp; omega
            by_cases h0 : j = 0
            · subst h0
              clear hbad
              rw [Nat.add_zero] at hcc
              go_wp2_with fail
              go_ret3
              rw [← HT.out]
              exact ⟨congrArg (fun x => Ending.returned (.tuple #[.int .u64 x, .int .i64 1, .int .i64 0])) (by have := or_piece a b.toNat 0 HA.out (by omega) hbl (by omega); rw [Nat.mod_eq_of_lt hsm] at this; simpa using this), rfl⟩
            · have hb0 : ((b.toNat : Int) == 0) = false := by simp; omega
              clear hbad
              go_wp2_with fail
              go_ret3
              rw [← HT.out]
              exact ⟨congrArg (fun x => Ending.returned (.tuple #[.int .u64 x, .int .i64 ((j : Int) + 1), .int .i64 0])) (by have := or_piece a b.toNat j HA.out hj9 hbl (by omega); rw [this, Nat.mod_eq_of_lt hsm]), rfl⟩
        · rw [tcS_on hbad hsm] at ht
          have HT := Lib.hid ht
          have HA := Lib.hid ha
          clear ht ha
          have hn9 : ((j : Int) == 9) = false := by simp; omega
          have hb0 : ((b.toNat : Int) == 0) = false := by simp; omega
          have hj8 : j ≤ 8 := by omega
          clear hbad
          have hstep : a + (b.toNat - 128) * 128 ^ j < 128 ^ (j + 1) := by
            have h1 : b.toNat - 128 ≤ 127 := by omega
            have h2 := Nat.mul_le_mul_right (128 ^ j) h1
            have := HA.out
            rw [Nat.pow_succ]
            omega
          have HSt := Lib.hid hstep
          clear hstep
          go_wp2_with fail
          all_goals
            go_round
            case rel => exact ⟨j + 1, _, by omega, by omega, HSt.out, by have := or_piece a b.toNat j HA.out hj9 hbl (by omega); rw [this, show b.toNat % 128 = b.toNat - 128 by omega], by go_num, HT.out⟩
            case measure => simp [intOf]; omega
    · obtain rfl : j = n := by omega
      have hd : l.drop j = [] := List.drop_eq_nil_of_le (by have := HL.out; omega)
      rw [hd, tcS_nil] at ht
      have HT := Lib.hid ht
      clear ht hd ha
      go_wp2_with fail
      go_ret3
      rw [← HT.out]
      exact ⟨rfl, rfl⟩
theorem mul_piece (a b j : Nat) (ha : a < 128 ^ j) (hj : j ≤ 9) (hb : b < 128) (hjb : j = 9 → b ≤ 1) : a + b * 128 ^ j < 18446744073709551616 := by
  have hq := pow_128_le j hj
  by_cases h9 : j = 9
  · have h2 := Nat.mul_le_mul_right (128 ^ j) (hjb h9)
    omega
  · have h8 : 128 ^ j ≤ 72057594037927936 := Nat.pow_le_pow_right (i := j) (j := 8) (by omega) (by omega)
    have h1 : b ≤ 127 := by omega
    have h2 := Nat.mul_le_mul h1 h8
    omega

set_option maxRecDepth 100000 in
set_option maxHeartbeats 1000000 in
theorem rtakeCount_any (A : Option Addr) (l : List UInt8) (n c : Nat) (w : World) (h : HasB w w.heap.size A n l) (hn : n ≤ 1073741824) :
    Calls Try.prog 24 #[.slice A n c] w fun e w' => e = tcRet (tcS l 0 0) ∧ w = w' := by
  obtain ⟨hl, hm⟩ := h
  have HL := Lib.hid hl
  have HM := Lib.hid hm
  clear hl hm
  go_enter Try.func24, Try.ntmps24
  go_wp2_with fail
  go_loop [5, 6, 7] (fun x u y => ∃ j a q : Nat, j ≤ n ∧ j ≤ 9 ∧ a < 128 ^ j ∧ q = 128 ^ j ∧ x = .int .u64 (a : Int) ∧ u = .int .u64 (q : Int) ∧ y = .int .i64 (j : Int) ∧ tcS (l.drop j) j a = tcS l 0 0) (fun _ _ y => n - (intOf y).toNat)
  case atStart => exact ⟨0, 0, 1, by omega, by omega, by simp, rfl, rfl, rfl, rfl, rfl⟩
  case round =>
    obtain ⟨j, a, q, hj, hj9, ha, hq, rfl, rfl, rfl, ht⟩ := hrel
    have hqb := pow_128_le j hj9
    rw [← hq] at hqb
    obtain ⟨q1, q2⟩ := hqb
    have HA := Lib.hid ha
    have HQ := Lib.hid hq
    have ha64 : a < 9223372036854775808 := by have := HA.out; have := HQ.out; omega
    clear ha hq
    by_cases hlt : j < n
    · obtain ⟨g, o, rfl, hg, hcell⟩ := HM.out (by omega)
      obtain ⟨b, hb⟩ := at_some l j (by have := HL.out; omega)
      have hcc := hcell j b hb
      have hbl := b.toNat_lt
      rw [drop_cons l j b hb] at ht
      clear hcell hb
      by_cases hbad : (j = 9 ∧ 1 < b.toNat) ∨ (0 < j ∧ b.toNat = 0)
      · rw [tcS_bad hbad] at ht
        have HT := Lib.hid ht
        clear ht
        rcases hbad with ⟨rfl, h1⟩ | ⟨h0, h1⟩
        · go_wp2_with fail
          go_ret3
          rw [← HT.out]
          exact ⟨rfl, rfl⟩
        · have hb0 : ((b.toNat : Int) == 0) = true := by simp; omega
          by_cases h9 : j = 9
          · subst h9
            go_wp2_with fail
            go_ret3
            rw [← HT.out]
            exact ⟨rfl, rfl⟩
          · have hn9 : ((j : Int) == 9) = false := by simp; omega
            go_wp2_with fail
            go_ret3
            rw [← HT.out]
            exact ⟨rfl, rfl⟩
      · by_cases hsm : b.toNat < 128
        · rw [tcS_end hbad hsm] at ht
          have HT := Lib.hid ht
          clear ht
          have hp := mul_piece a b.toNat j HA.out hj9 hsm (by omega)
          rw [← HQ.out] at hp
          have hc : (b.toNat : Int) * (q : Int) = ((b.toNat * q : Nat) : Int) := (Int.natCast_mul _ _).symm
          have hfin : IntKind.u64.wrap ((a : Int) + IntKind.u64.wrap ((b.toNat : Int) * (q : Int))) = ((a + b.toNat * 128 ^ j : Nat) : Int) := by
            rw [hc, IntWalk.u64_in ((b.toNat * q : Nat) : Int) (by omega), ← Int.natCast_add, IntWalk.u64_in _ (by omega), HQ.out]
          have HF := Lib.hid hfin
          clear hfin hp hc
          by_cases h9 : j = 9
          · subst h9
            have h1 : (b.toNat : Int) ≤ 1 := by omega
            have hb0 : ((b.toNat : Int) == 0) = false := by simp; omega
            clear hbad
            go_wp2_with fail
            go_ret3
            rw [← HT.out]
            exact ⟨congrArg (fun x => Ending.returned (.tuple #[.int .u64 x, .int .i64 10, .int .i64 0])) HF.out, rfl⟩
          · have hn9 : ((j : Int) == 9) = false := by simp; omega
            by_cases h0 : j = 0
            · have hj0 : (j : Int) ≤ 0 := by omega
              clear hbad h0
              by_cases hz : b.toNat = 0
              · have hb0 : ((b.toNat : Int) == 0) = true := by simp; omega
                have hfin : ((a + b.toNat * 128 ^ j : Nat) : Int) = a := by rw [hz]; simp
                have HF2 := Lib.hid hfin
                clear hfin hz
                go_wp2_with fail
                go_ret3
                rw [← HT.out]
                first
                  | exact ⟨congrArg (fun x => Ending.returned (.tuple #[.int .u64 x, .int .i64 ((j : Int) + 1), .int .i64 0])) HF.out, rfl⟩
                  | exact ⟨congrArg (fun x => Ending.returned (.tuple #[.int .u64 x, .int .i64 ((j : Int) + 1), .int .i64 0])) HF2.out.symm, rfl⟩
              · have hb0 : ((b.toNat : Int) == 0) = false := by simp; omega
                clear hz
                go_wp2_with fail
                go_ret3
                rw [← HT.out]
                exact ⟨congrArg (fun x => Ending.returned (.tuple #[.int .u64 x, .int .i64 ((j : Int) + 1), .int .i64 0])) HF.out, rfl⟩
            · have hb0 : ((b.toNat : Int) == 0) = false := by simp; omega
              clear hbad
              go_wp2_with fail
              go_ret3
              rw [← HT.out]
              exact ⟨congrArg (fun x => Ending.returned (.tuple #[.int .u64 x, .int .i64 ((j : Int) + 1), .int .i64 0])) HF.out, rfl⟩
        · rw [tcS_on hbad hsm] at ht
          have HT := Lib.hid ht
          clear ht
          have hn9 : ((j : Int) == 9) = false := by simp; omega
          have hj8 : j ≤ 8 := by omega
          clear hbad
          have hstep : a + (b.toNat - 128) * 128 ^ j < 128 ^ (j + 1) := by
            have h1 : b.toNat - 128 ≤ 127 := by omega
            have h2 := Nat.mul_le_mul_right (128 ^ j) h1
            have := HA.out
            rw [Nat.pow_succ]
            omega
          have hqq : q ≤ 72057594037927936 := by rw [HQ.out]; exact Nat.pow_le_pow_right (i := j) (j := 8) (by omega) hj8
          have hp := mul_piece a (b.toNat - 128) j HA.out hj9 (by omega) (by omega)
          rw [← HQ.out] at hp
          have hc : ((b.toNat : Int) - 128) * (q : Int) = (((b.toNat - 128) * q : Nat) : Int) := by rw [Int.natCast_mul, Int.ofNat_sub (by omega)]; rfl
          have hfin : IntKind.u64.wrap ((a : Int) + IntKind.u64.wrap (((b.toNat : Int) - 128) * (q : Int))) = ((a + (b.toNat - 128) * 128 ^ j : Nat) : Int) := by
            rw [hc, IntWalk.u64_in (((b.toNat - 128) * q : Nat) : Int) (by omega), ← Int.natCast_add, IntWalk.u64_in _ (by omega), HQ.out]
          have HF := Lib.hid hfin
          have HSt := Lib.hid hstep
          clear hstep hfin hp hc
          go_wp2_with fail
          all_goals
            go_round
            case rel => exact ⟨j + 1, _, q * 128, by omega, by omega, HSt.out, by rw [Nat.pow_succ, HQ.out], by rw [HF.out], by go_num, by go_num, HT.out⟩
            case measure => simp [intOf]; omega
    · obtain rfl : j = n := by omega
      have hd : l.drop j = [] := List.drop_eq_nil_of_le (by have := HL.out; omega)
      rw [hd, tcS_nil] at ht
      have HT := Lib.hid ht
      clear ht hd
      go_wp2_with fail
      go_ret3
      rw [← HT.out]
      exact ⟨rfl, rfl⟩
/-! ### TakeText -/
theorem tcS_le : ∀ (l : List UInt8) (i a : Nat), (tcS l i a).2.2 = 0 → i < (tcS l i a).2.1 ∧ (tcS l i a).2.1 ≤ i + l.length
  | [], i, a => by intro h; simp [tcS] at h
  | c :: l, i, a => by
    intro h
    by_cases hb : (i = 9 ∧ 1 < c.toNat) ∨ (0 < i ∧ c.toNat = 0)
    · rw [tcS_bad hb] at h; simp at h
    · by_cases h2 : c.toNat < 128
      · rw [tcS_end hb h2]; simp
      · rw [tcS_on hb h2] at h ⊢
        have := tcS_le l (i + 1) _ h
        rw [List.length_cons]
        omega

def ttE (l : List UInt8) : Int := if (tcS l 0 0).2.2 = 0 then (if 65536 < (tcS l 0 0).1 then 2 else if l.length - (tcS l 0 0).2.1 < (tcS l 0 0).1 then 3 else 0) else (tcS l 0 0).2.2
def ttN (l : List UInt8) : Nat := if ttE l = 0 then (tcS l 0 0).2.1 + (tcS l 0 0).1 else 0
def ttL (l : List UInt8) : List UInt8 := if ttE l = 0 then (l.drop (tcS l 0 0).2.1).take (tcS l 0 0).1 else []

/-- What a TakeText hands back. -/
def RetTT (w : World) (l : List UInt8) (N : Nat) (k : Int) (e : Ending) (w' : World) : Prop :=
  ∃ A n c, e = .returned (.tuple #[.slice A n c, .int .i64 (N : Int), .int .i64 k]) ∧ OwnB w' w.heap.size (.slice A n c) l ∧ Below w.heap.size w w'

theorem ttE_bad {l : List UInt8} (h : ttE l ≠ 0) : ttN l = 0 ∧ ttL l = [] := by unfold ttN ttL; rw [if_neg h, if_neg h]; exact ⟨rfl, rfl⟩

theorem takeText_any (A : Option Addr) (l : List UInt8) (n c : Nat) (w : World) (h : HasB w w.heap.size A n l) (hn : n ≤ 1073741824) (hc : n ≤ c) (hc2 : c ≤ maxLen) :
    Calls Try.prog 25 #[.slice A n c] w (RetTT w (ttL l) (ttN l) (ttE l)) := by
  have hl := h.len
  have ht := takeCount_any A l n c w h hn
  have hle := tcS_le l 0 0
  have hbad := @ttE_bad l
  have hE : ttE l = if (tcS l 0 0).2.2 = 0 then (if 65536 < (tcS l 0 0).1 then 2 else if l.length - (tcS l 0 0).2.1 < (tcS l 0 0).1 then 3 else 0) else (tcS l 0 0).2.2 := rfl
  have hN : ttE l = 0 → ttN l = (tcS l 0 0).2.1 + (tcS l 0 0).1 := fun e => by unfold ttN; rw [if_pos e]
  have hL : ttE l = 0 → ttL l = (l.drop (tcS l 0 0).2.1).take (tcS l 0 0).1 := fun e => by unfold ttL; rw [if_pos e]
  unfold tcRet at ht
  rcases hr : tcS l 0 0 with ⟨v, k, e⟩
  rw [hr] at ht hle hE hN hL
  simp only at ht hle hE hN hL
  clear hr
  unfold maxLen at hc2
  by_cases he : e = 0
  · subst he
    obtain ⟨hk0, hk⟩ := hle rfl
    rw [if_pos rfl] at hE
    by_cases hv : 65536 < v
    · rw [if_pos hv] at hE
      rw [hE] at hbad ⊢
      obtain ⟨b1, b2⟩ := hbad (by decide)
      rw [b1, b2]
      have HT := Lib.hid ht
      clear ht hle hbad hE hN hL b1 b2 hl h hk hk0
      go_enter Try.func25, Try.ntmps25
      go_wp2_with (go_at_call 23; refine HT.out.mono ?_; rintro e w' ⟨rfl, rfl⟩)
      go_ret3
      exact ⟨none, 0, 0, rfl, OwnB.nil _ _, Below.refl _ _⟩
    · rw [if_neg hv] at hE
      by_cases hs : l.length - k < v
      · rw [if_pos hs] at hE
        rw [hE] at hbad ⊢
        obtain ⟨b1, b2⟩ := hbad (by decide)
        rw [b1, b2]
        have HT := Lib.hid ht
        have hkn : k ≤ n := by omega
        have hs' : (n : Int) - (k : Int) < (v : Int) := by omega
        clear ht hle hbad hE hN hL b1 b2 hl h hk hk0 hs
        go_enter Try.func25, Try.ntmps25
        go_wp2_with (go_at_call 23; refine HT.out.mono ?_; rintro e w' ⟨rfl, rfl⟩)
        go_ret3
        exact ⟨none, 0, 0, rfl, OwnB.nil _ _, Below.refl _ _⟩
      · rw [if_neg hs] at hE
        rw [hE, hN hE, hL hE]
        have HT := Lib.hid ht
        obtain ⟨g, o, rfl, _, _⟩ := h.2 (by omega)
        have hkn : k + v ≤ n := by omega
        have hwin := fun (A' : Option Addr) (m : Nat) (hm : m = v) (hA : 0 < v → A' = some ⟨g, o + k, none⟩) => h.window hkn hm hA
        have HW := Lib.hid hwin
        clear ht hle hbad hE hN hL hl hk hs hwin h
        by_cases hck : c = k
        · have hv0 : v = 0 := by omega
          subst hck hv0
          go_enter Try.func25, Try.ntmps25
          go_wp2_with (first
            | (go_at_call 23; refine HT.out.mono ?_; rintro e w' ⟨rfl, rfl⟩)
            | (go_at_call 38; go_loud (refine (cwr_any _ _ _ _ 0 _ (HW.out _ _ (by omega) (by omega)) (by omega)).mono ?_); rintro e w1 ⟨A1, n1, c1, rfl, hown1, hb1⟩))
          go_ret3
          exact ⟨_, _, _, rfl, hown1, hb1⟩
        · go_enter Try.func25, Try.ntmps25
          go_wp2_with (first
            | (go_at_call 23; refine HT.out.mono ?_; rintro e w' ⟨rfl, rfl⟩)
            | (go_at_call 38; go_loud (refine (cwr_any _ _ _ _ 0 _ (HW.out _ _ (by omega) (fun _ => rfl)) (by omega)).mono ?_); rintro e w1 ⟨A1, n1, c1, rfl, hown1, hb1⟩))
          go_ret3
          exact ⟨_, _, _, rfl, hown1, hb1⟩
  · rw [if_neg he] at hE
    rw [hE] at hbad ⊢
    obtain ⟨b1, b2⟩ := hbad he
    rw [b1, b2]
    have HT := Lib.hid ht
    have hne : (e != 0) = true := by simpa using he
    clear ht hle hbad hE hN hL b1 b2 hl h he
    go_enter Try.func25, Try.ntmps25
    go_wp2_with (go_at_call 23; refine HT.out.mono ?_; rintro e w' ⟨rfl, rfl⟩)
    go_ret3
    exact ⟨none, 0, 0, rfl, OwnB.nil _ _, Below.refl _ _⟩
end Go.Proofs.Ytpbffcmmhffdcaa
