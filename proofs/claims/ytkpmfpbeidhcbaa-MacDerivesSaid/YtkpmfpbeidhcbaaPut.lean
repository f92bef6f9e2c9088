/-
  Own work. Numbers as bytes: the contract of octet's Put.
-/
import Derived.Test.YtkpmfpbeidhcbaaByt
namespace Go.Proofs.Ytkpmfpbeidhcbaa
open Go.RowKit
set_option linter.unusedVariables false
set_option linter.unusedSimpArgs false

/-- A call that hands back new bytes l and turns nothing that was there. -/
def RetB (w : World) (l : List UInt8) (e : Ending) (w' : World) : Prop :=
  ∃ A n c, e = .returned (.slice A n c) ∧ OwnB w' w.heap.size (.slice A n c) l ∧ Below w.heap.size w w'

/-- A call that hands back new bytes l and an error's number, and turns nothing that was there. -/
def RetBE (w : World) (l : List UInt8) (k : Int) (e : Ending) (w' : World) : Prop :=
  ∃ A n c, e = .returned (.tuple #[.slice A n c, .int .i64 k]) ∧ OwnB w' w.heap.size (.slice A n c) l ∧ Below w.heap.size w w'

/-! ### Lists -/
/-- The lowest n bytes of v, the greatest first. -/
def be : Nat → Nat → List UInt8
  | 0, _ => []
  | n + 1, v => be n (v / 256) ++ [UInt8.ofNat v]

theorem be_length : ∀ n v, (be n v).length = n
  | 0, _ => rfl
  | n + 1, v => by simp [be, be_length n]

theorem be_cons : ∀ n v, be (n + 1) v = UInt8.ofNat (v / 256 ^ n) :: be n v
  | 0, v => by simp [be]
  | n + 1, v => by
    rw [be, be_cons n (v / 256), be, List.cons_append, Nat.div_div_eq_div_mul, Nat.pow_succ, Nat.mul_comm]

theorem mayWidth_any (n : Int) (w : World) (hn : -9223372036854775808 ≤ n ∧ n ≤ 9223372036854775807) :
    Calls Try.prog 47 #[.int .i64 n] w fun e w' => e = .returned (.bool (decide (1 ≤ n ∧ n ≤ 8))) ∧ w = w' := by
  obtain ⟨h1, h2⟩ := hn
  go_enter Try.func47, Try.ntmps47
  go_wp2
  all_goals go_ret
  all_goals simp [*]
  all_goals omega

theorem mayWidth_yes (n : Int) (w : World) (h1 : 1 ≤ n) (h2 : n ≤ 8) : Calls Try.prog 47 #[.int .i64 n] w fun e w' => e = .returned (.bool true) ∧ w = w' :=
  (mayWidth_any n w (by omega)).mono fun e w' ⟨he, hw⟩ => ⟨by rw [he, decide_eq_true ⟨h1, h2⟩], hw⟩
theorem mayWidth_no (n : Int) (w : World) (hn : -9223372036854775808 ≤ n ∧ n ≤ 9223372036854775807) (h : ¬ (1 ≤ n ∧ n ≤ 8)) : Calls Try.prog 47 #[.int .i64 n] w fun e w' => e = .returned (.bool false) ∧ w = w' :=
  (mayWidth_any n w hn).mono fun e w' ⟨he, hw⟩ => ⟨by rw [he, decide_eq_false h], hw⟩

theorem cwr_any (A : Option Addr) (l : List UInt8) (n c r : Nat) (w : World) (h : HasB w w.heap.size A n l) (hn : n + r ≤ 70368744177664) :
    Calls Try.prog 48 #[.slice A n c, .int .i64 (r : Int)] w (RetB w l) := by
  have hl := h.len
  have HL := Lib.hid hl
  clear hl
  obtain ⟨i0, hi0, hz0, hz1, hz2⟩ := info_parts infoU8
  go_enter Try.func48, Try.ntmps48
  go_wp2_with (first
    | (at_make; refine wpList_make_own _ rfl _ _ _ rfl w.heap.size 5 i0 _ 1 Try.underlying22 hi0 hz0 hz1 _ _ _ (n + r) rfl rfl (by omega) (by rw [hz2]; omega) (by simp only [maxLen]; omega) (Nat.le_refl _) ?_; intro w1 hown1 hg1)
    | (at_builtin; refine wp_app rfl _ _ rfl Try.underlying22 infoU8 w.heap.size _ [] l rfl hown1 w.heap.size A n c rfl (h.below ((Below.refl _ _).grown hg1 (Nat.le_refl _) (by simp))) (by rw [← HL.out]; simp; omega) hg1.size ?_; intro A2 n2 c2 w2 hown2 hg2 hb2))
  go_ret
  exact ⟨A2, n2, c2, rfl, by simpa using hown2, ((Below.refl _ _).grown hg1 (Nat.le_refl _) (by simp)).trans hb2⟩

/-! ### Put -/
/-- The error of Put, of its number and its width. -/
def putE (v : Nat) (n : Int) : Int := if 1 ≤ n ∧ n ≤ 8 then (if v < 256 ^ n.toNat then 0 else 2) else 1
/-- The bytes that Put hands back. -/
def putL (l : List UInt8) (v : Nat) (n : Int) : List UInt8 := if putE v n = 0 then l ++ be n.toNat v else []

theorem pow_256 (k : Nat) : 256 ^ k = 2 ^ (8 * k) := by rw [Nat.pow_mul]
theorem shr_256 (v k : Nat) : (v : Int) / 2 ^ (8 * k) = ((v / 256 ^ k : Nat) : Int) := by rw [pow_256]; simp

theorem be_step (v k j : Nat) (h : j < k) : be (j + 1) (v / 256 ^ (k - (j + 1))) = be j (v / 256 ^ (k - j)) ++ [UInt8.ofNat (v / 256 ^ (k - 1 - j))] := by
  rw [be, show k - j = (k - (j + 1)) + 1 by omega, Nat.pow_succ, Nat.div_div_eq_div_mul, show k - (j + 1) = k - 1 - j by omega]

theorem put_ok (A : Option Addr) (l : List UInt8) (n c v k : Nat) (w : World) (h : HasB w w.heap.size A n l) (hn : n ≤ 1073741824) (hv : v < 18446744073709551616) (hk1 : 1 ≤ k) (hk8 : k ≤ 8) (hfit : v < 256 ^ k) :
    Calls Try.prog 36 #[.slice A n c, .int .u64 (v : Int), .int .i64 (k : Int)] w (RetBE w (l ++ be k v) 0) := by
  have hl := h.len
  have HL := Lib.hid hl
  have HF := Lib.hid hfit
  have t : ((v : Int) / 2 ^ (8 * k) != 0) = false := by
    rw [shr_256, Nat.div_eq_of_lt hfit]; rfl
  clear hl hfit
  go_enter Try.func36, Try.ntmps36
  go_wp2_with (first
    | (go_at_call 47; refine (mayWidth_yes _ _ (by omega) (by omega)).mono ?_; rintro e w' ⟨rfl, rfl⟩)
    | (go_at_call 48; refine (cwr_any A l n c k _ h (by omega)).mono ?_; rintro e w1 ⟨A1, n1, c1, rfl, hown1, hb1⟩))
  have T := Lib.hid t
  clear t
  go_loopw [8, 9] (fun s x wr => ∃ (A' : Option Addr) (n' c' j : Nat), s = .slice A' n' c' ∧ x = .int .i64 (8 * ((k : Int) - 1) - 8 * (j : Int)) ∧ j ≤ k ∧ OwnB wr w.heap.size (.slice A' n' c') (l ++ be j (v / 256 ^ (k - j))) ∧ Below w.heap.size w wr) (fun _ x _ => (intOf x + 8).toNat)
  case atStart => exact ⟨A1, n1, c1, 0, rfl, by go_num, by omega, by simpa [be] using hown1, hb1⟩
  case round =>
    obtain ⟨A', n', c', j, rfl, rfl, hj, hown, hbel⟩ := hrel
    have hsz := hbel.size
    by_cases hlt : j < k
    · have es : (v : Int) / 2 ^ (8 * (k - 1 - j)) = ((v / 256 ^ (k - 1 - j) : Nat) : Int) := shr_256 _ _
      have ES := Lib.hid es
      clear es
      go_wp2_with (at_builtin; go_loud (refine wp_app rfl _ _ rfl Try.underlying22 infoU8 w.heap.size _ _ [UInt8.ofNat (v / 256 ^ (k - 1 - j))] rfl (hown.alloc _) _ _ _ _ rfl (HasB.one wr _ _ _ ?hx1) (by have := HL.out; simp [be_length]; omega) (by simp; omega) ?_); rotate_right; intro A2 n2 c2 w2 hown2 hg2 hb2)
      case hx1 => rw [show 8 * (k - 1) - 8 * j = 8 * (k - 1 - j) by omega, shr_256, u8_of]
      go_roundw
      case rel => exact ⟨A2, n2, c2, j + 1, rfl, by go_num, by omega, by rw [be_step v k j hlt, ← List.append_assoc]; exact hown2, (hbel.alloc hsz _).trans hb2⟩
      case measure => simp [intOf]; omega
    · go_wp2_with fail
      go_ret2
      obtain rfl : j = k := by omega
      exact ⟨A', n', c', rfl, by simpa using hown, hbel⟩

theorem putE_cases (v : Nat) (n : Int) (hn : -9223372036854775808 ≤ n ∧ n ≤ 9223372036854775807) :
    (putE v n = 1 ∧ ¬ (1 ≤ n ∧ n ≤ 8)) ∨ ∃ k : Nat, n = k ∧ 1 ≤ k ∧ k ≤ 8 ∧ ((putE v n = 2 ∧ ¬ v < 256 ^ k) ∨ (putE v n = 0 ∧ v < 256 ^ k)) := by
  unfold putE
  by_cases h : 1 ≤ n ∧ n ≤ 8
  · refine .inr ⟨n.toNat, by omega, by omega, by omega, ?_⟩
    rw [if_pos h]
    by_cases h2 : v < 256 ^ n.toNat
    · exact .inr ⟨if_pos h2, h2⟩
    · exact .inl ⟨if_neg h2, h2⟩
  · exact .inl ⟨if_neg h, h⟩

end Go.Proofs.Ytkpmfpbeidhcbaa
