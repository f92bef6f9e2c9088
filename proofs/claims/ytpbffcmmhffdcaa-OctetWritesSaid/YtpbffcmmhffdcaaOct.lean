/-
  Own work. Contracts of package octet's functions that make bytes.
-/
import Derived.Test.YtpbffcmmhffdcaaByt
import Derived.Test.YtpbffcmmhffdcaaShelf
namespace Go.Proofs.Ytpbffcmmhffdcaa
open Go.RowKit
set_option linter.unusedVariables false

/-- A call that hands back new bytes l and turns nothing that was there. -/
def RetB (w : World) (l : List UInt8) (e : Ending) (w' : World) : Prop :=
  ∃ A n c, e = .returned (.slice A n c) ∧ OwnB w' w.heap.size (.slice A n c) l ∧ Below w.heap.size w w'

/-- A call that hands back new bytes l and an error's number, and turns nothing that was there. -/
def RetBE (w : World) (l : List UInt8) (k : Int) (e : Ending) (w' : World) : Prop :=
  ∃ A n c, e = .returned (.tuple #[.slice A n c, .int .i64 k]) ∧ OwnB w' w.heap.size (.slice A n c) l ∧ Below w.heap.size w w'

/-- Some number from 0 to 400. -/
def SomeSmall (w : World) (e : Ending) (w' : World) : Prop := ∃ r : Nat, r ≤ 400 ∧ e = .returned (.int .i64 (r : Int)) ∧ w = w'

/-! ### Lists -/
/-- The lowest n bytes of v, the greatest first. -/
def be : Nat → Nat → List UInt8
  | 0, _ => []
  | n + 1, v => be n (v / 256) ++ [UInt8.ofNat v]

theorem be_length : ∀ n v, (be n v).length = n
  | 0, _ => rfl
  | n + 1, v => by simp [be, be_length n]

theorem be_cons : ∀ n v, be (n + 1) v = UInt8.ofNat (v / 256 ^ n) :: be n v
  | 0, v => by simp [be]
  | n + 1, v => by
    rw [be, be_cons n (v / 256), be, List.cons_append, Nat.div_div_eq_div_mul, Nat.pow_succ, Nat.mul_comm]

/-- A count's bytes. -/
def leb (v : Nat) : List UInt8 := if v < 128 then [UInt8.ofNat v] else UInt8.ofNat (v % 128 + 128) :: leb (v / 128)
termination_by v
decreasing_by omega

theorem leb_small {v : Nat} (h : v < 128) : leb v = [UInt8.ofNat v] := by rw [leb, if_pos h]
theorem leb_big {v : Nat} (h : ¬ v < 128) : leb v = UInt8.ofNat (v % 128 + 128) :: leb (v / 128) := by rw [leb, if_neg h]
theorem leb_length (v k : Nat) (h : v < 128 ^ (k + 1)) : (leb v).length ≤ k + 1 := by
  induction k generalizing v with
  | zero => rw [leb_small (by simpa using h)]; simp
  | succ k ih =>
    by_cases h1 : v < 128
    · rw [leb_small h1]; simp
    · rw [leb_big h1, List.length_cons]
      have := ih (v / 128) (by rw [Nat.div_lt_iff_lt_mul (by omega)]; rw [Nat.pow_succ] at h; exact h)
      omega

theorem mayWidth_any (n : Int) (w : World) (hn : -9223372036854775808 ≤ n ∧ n ≤ 9223372036854775807) :
    Calls Try.prog 37 #[.int .i64 n] w fun e w' => e = .returned (.bool (decide (1 ≤ n ∧ n ≤ 8))) ∧ w = w' := by
  obtain ⟨h1, h2⟩ := hn
  go_enter Try.func37, Try.ntmps37
  go_wp2
  all_goals go_ret
  all_goals simp [*]
  all_goals omega

theorem mayWidth_yes (n : Int) (w : World) (h1 : 1 ≤ n) (h2 : n ≤ 8) : Calls Try.prog 37 #[.int .i64 n] w fun e w' => e = .returned (.bool true) ∧ w = w' :=
  (mayWidth_any n w (by omega)).mono fun e w' ⟨he, hw⟩ => ⟨by rw [he, decide_eq_true ⟨h1, h2⟩], hw⟩
theorem mayWidth_no (n : Int) (w : World) (hn : -9223372036854775808 ≤ n ∧ n ≤ 9223372036854775807) (h : ¬ (1 ≤ n ∧ n ≤ 8)) : Calls Try.prog 37 #[.int .i64 n] w fun e w' => e = .returned (.bool false) ∧ w = w' :=
  (mayWidth_any n w hn).mono fun e w' ⟨he, hw⟩ => ⟨by rw [he, decide_eq_false h], hw⟩

theorem cwr_any (A : Option Addr) (l : List UInt8) (n c r : Nat) (w : World) (h : HasB w w.heap.size A n l) (hn : n + r ≤ 70368744177664) :
    Calls Try.prog 38 #[.slice A n c, .int .i64 (r : Int)] w (RetB w l) := by
  have hl := h.len
  have HL := Lib.hid hl
  clear hl
  obtain ⟨i0, hi0, hz0, hz1, hz2⟩ := info_parts infoU8
  go_enter Try.func38, Try.ntmps38
  go_wp2_with (first
    | (at_make; refine wpList_make_own _ rfl _ _ _ rfl w.heap.size 5 i0 _ 1 Try.underlying22 hi0 hz0 hz1 _ _ _ (n + r) rfl rfl (by omega) (by rw [hz2]; omega) (by simp only [maxLen]; omega) (Nat.le_refl _) ?_; intro w1 hown1 hg1)
    | (at_builtin; refine wp_app rfl _ _ rfl Try.underlying22 infoU8 w.heap.size _ [] l rfl hown1 w.heap.size A n c rfl (h.below ((Below.refl _ _).grown hg1 (Nat.le_refl _) (by simp))) (by rw [← HL.out]; simp; omega) hg1.size ?_; intro A2 n2 c2 w2 hown2 hg2 hb2))
  go_ret
  exact ⟨A2, n2, c2, rfl, by simpa using hown2, ((Below.refl _ _).grown hg1 (Nat.le_refl _) (by simp)).trans hb2⟩

theorem bitLen_small (v : Nat) (h : v < 18446744073709551616) : Lib.bitLen v ≤ 64 := by
  exact Lib.bitLen_le v 64 (Nat.le_refl _) h

theorem countLen_any (v : Nat) (w : World) (hv : v < 18446744073709551616) :
    Calls Try.prog 40 #[.int .u64 (v : Int)] w (SomeSmall w) := by
  have hb : Lib.bitLen v ≤ 64 := bitLen_small v hv
  go_enter Try.func40, Try.ntmps40
  go_wp2_with (go_at_call 42; refine (bits_Len64 _ _ (by omega) (by omega)).mono ?_; rintro e w' ⟨rfl, rfl⟩)
  go_ret
  refine ⟨(max 1 (((Lib.bitLen v : Int) + 7 - 1) / 7)).toNat, by omega, ?_, rfl⟩
  rw [Int.toNat_of_nonneg (by omega)]
  rfl

/-- What a call that goes on appending to a row of the call's own leaves. -/
def RetOn (w : World) (base : Nat) (l : List UInt8) (e : Ending) (w' : World) : Prop :=
  ∃ A n c, e = .returned (.slice A n c) ∧ OwnB w' base (.slice A n c) l ∧ Below base w w'

theorem or128 (y : Nat) : bits .or .u8 ((y : Int) % 256) 128 = ((UInt8.ofNat (y % 128 + 128)).toNat : Int) := by
  have e : ((y : Int) % 256) = ((y % 256 : Nat) : Int) := by omega
  rw [u8_of, e, show (128 : Int) = ((128 : Nat) : Int) from rfl, (bits_nat .u8 8 (by decide) wraps_u8 (y % 256) 128 (by omega) (by omega)).2]
  have all : ∀ z : Fin 256, z.val ||| 128 = z.val % 128 + 128 := by decide +kernel
  have := all ⟨y % 256, by omega⟩
  simp only at this
  rw [this]
  omega

set_option maxRecDepth 100000 in
theorem appendCount_any (A : Option Addr) (l : List UInt8) (n c v : Nat) (base : Nat) (w : World) (h : OwnB w base (.slice A n c) l) (hn : l.length ≤ 70368744177664) (hv : v < 18446744073709551616) (hbase : base ≤ w.heap.size) :
    Calls Try.prog 39 #[.slice A n c, .int .u64 (v : Int)] w (RetOn w base (l ++ leb v)) := by
  have hle := leb_length v 9 (by omega)
  go_enter Try.func39, Try.ntmps39
  go_wp2_with fail
  go_loopw [0, 1] (fun s x wr => ∃ (A' : Option Addr) (n' c' : Nat) (d : List UInt8) (y : Nat), s = .slice A' n' c' ∧ x = .int .u64 (y : Int) ∧ y ≤ v ∧ d ++ leb y = leb v ∧ OwnB wr base (.slice A' n' c') (l ++ d) ∧ Below base w wr) (fun _ x _ => (intOf x).toNat)
  case atStart => exact ⟨A, n, c, [], v, rfl, rfl, Nat.le_refl _, by simp, by simpa using h, Below.refl _ _⟩
  case round =>
    obtain ⟨A', n', c', d, y, rfl, rfl, hy, hd, hown, hbel⟩ := hrel
    have hdl : d.length ≤ 10 := by rw [← hd, List.length_append] at hle; omega
    have HD := Lib.hid hd
    have HH := Lib.hid hdl
    have HLE := Lib.hid hle
    clear hd hle hdl
    have hsz : base ≤ wr.heap.size := Nat.le_trans hbase hbel.size
    by_cases hlt : y < 128
    · go_wp2_with (at_builtin; go_loud (refine wp_app rfl _ _ rfl Try.underlying22 infoU8 base _ (l ++ d) [UInt8.ofNat y] rfl (hown.alloc _) _ _ _ _ rfl (HasB.one wr _ _ _ ?hx1) (by have := HH.out; simp; omega) (by simp; omega) ?_); rotate_right; intro A2 n2 c2 w2 hown2 hg2 hb2)
      case hx1 => rw [u8_of]; omega
      go_ret
      exact ⟨A2, n2, c2, rfl, by rw [← HD.out, leb_small hlt, ← List.append_assoc]; exact hown2, ((hbel.alloc hsz _).trans hb2)⟩
    · go_wp2_with (at_builtin; go_loud (refine wp_app rfl _ _ rfl Try.underlying22 infoU8 base _ (l ++ d) [UInt8.ofNat (y % 128 + 128)] rfl (hown.alloc _) _ _ _ _ rfl (HasB.one wr _ _ _ ?hx2) (by have := HH.out; simp; omega) (by simp; omega) ?_); rotate_right; intro A2 n2 c2 w2 hown2 hg2 hb2)
      case hx2 => exact or128 y
      go_roundw
      case rel => exact ⟨A2, n2, c2, d ++ [UInt8.ofNat (y % 128 + 128)], y / 128, rfl, by go_num, by omega, by rw [← HD.out, leb_big hlt]; simp, by rw [← List.append_assoc]; exact hown2, (hbel.alloc hsz _).trans hb2⟩
      case measure => simp [intOf]; omega
/-! ### Put -/
/-- The error of Put, of its number and its width. -/
def putE (v : Nat) (n : Int) : Int := if 1 ≤ n ∧ n ≤ 8 then (if v < 256 ^ n.toNat then 0 else 2) else 1
/-- The bytes that Put hands back. -/
def putL (l : List UInt8) (v : Nat) (n : Int) : List UInt8 := if putE v n = 0 then l ++ be n.toNat v else []

theorem pow_256 (k : Nat) : 256 ^ k = 2 ^ (8 * k) := by rw [Nat.pow_mul]
theorem shr_256 (v k : Nat) : (v : Int) / 2 ^ (8 * k) = ((v / 256 ^ k : Nat) : Int) := by rw [pow_256]; simp

theorem be_step (v k j : Nat) (h : j < k) : be (j + 1) (v / 256 ^ (k - (j + 1))) = be j (v / 256 ^ (k - j)) ++ [UInt8.ofNat (v / 256 ^ (k - 1 - j))] := by
  rw [be, show k - j = (k - (j + 1)) + 1 by omega, Nat.pow_succ, Nat.div_div_eq_div_mul, show k - (j + 1) = k - 1 - j by omega]

theorem put_ok (A : Option Addr) (l : List UInt8) (n c v k : Nat) (w : World) (h : HasB w w.heap.size A n l) (hn : n ≤ 1073741824) (hv : v < 18446744073709551616) (hk1 : 1 ≤ k) (hk8 : k ≤ 8) (hfit : v < 256 ^ k) :
    Calls Try.prog 13 #[.slice A n c, .int .u64 (v : Int), .int .i64 (k : Int)] w (RetBE w (l ++ be k v) 0) := by
  have hl := h.len
  have HL := Lib.hid hl
  have HF := Lib.hid hfit
  have t : ((v : Int) / 2 ^ (8 * k) != 0) = false := by
    rw [shr_256, Nat.div_eq_of_lt hfit]; rfl
  clear hl hfit
  go_enter Try.func13, Try.ntmps13
  go_wp2_with (first
    | (go_at_call 37; refine (mayWidth_yes _ _ (by omega) (by omega)).mono ?_; rintro e w' ⟨rfl, rfl⟩)
    | (go_at_call 38; refine (cwr_any A l n c k _ h (by omega)).mono ?_; rintro e w1 ⟨A1, n1, c1, rfl, hown1, hb1⟩))
  have T := Lib.hid t
  clear t
  go_loopw [8, 9] (fun s x wr => ∃ (A' : Option Addr) (n' c' j : Nat), s = .slice A' n' c' ∧ x = .int .i64 (8 * ((k : Int) - 1) - 8 * (j : Int)) ∧ j ≤ k ∧ OwnB wr w.heap.size (.slice A' n' c') (l ++ be j (v / 256 ^ (k - j))) ∧ Below w.heap.size w wr) (fun _ x _ => (intOf x + 8).toNat)
  case atStart => exact ⟨A1, n1, c1, 0, rfl, by go_num, by omega, by simpa [be] using hown1, hb1⟩
  case round =>
    obtain ⟨A', n', c', j, rfl, rfl, hj, hown, hbel⟩ := hrel
    have hsz := hbel.size
    by_cases hlt : j < k
    · have es : (v : Int) / 2 ^ (8 * (k - 1 - j)) = ((v / 256 ^ (k - 1 - j) : Nat) : Int) := shr_256 _ _
      have ES := Lib.hid es
      clear es
      go_wp2_with (at_builtin; go_loud (refine wp_app rfl _ _ rfl Try.underlying22 infoU8 w.heap.size _ _ [UInt8.ofNat (v / 256 ^ (k - 1 - j))] rfl (hown.alloc _) _ _ _ _ rfl (HasB.one wr _ _ _ ?hx1) (by have := HL.out; simp [be_length]; omega) (by simp; omega) ?_); rotate_right; intro A2 n2 c2 w2 hown2 hg2 hb2)
      case hx1 => rw [show 8 * (k - 1) - 8 * j = 8 * (k - 1 - j) by omega, shr_256, u8_of]
      go_roundw
      case rel => exact ⟨A2, n2, c2, j + 1, rfl, by go_num, by omega, by rw [be_step v k j hlt, ← List.append_assoc]; exact hown2, (hbel.alloc hsz _).trans hb2⟩
      case measure => simp [intOf]; omega
    · go_wp2_with fail
      go_ret2
      obtain rfl : j = k := by omega
      exact ⟨A', n', c', rfl, by simpa using hown, hbel⟩

theorem putE_cases (v : Nat) (n : Int) (hn : -9223372036854775808 ≤ n ∧ n ≤ 9223372036854775807) :
    (putE v n = 1 ∧ ¬ (1 ≤ n ∧ n ≤ 8)) ∨ ∃ k : Nat, n = k ∧ 1 ≤ k ∧ k ≤ 8 ∧ ((putE v n = 2 ∧ ¬ v < 256 ^ k) ∨ (putE v n = 0 ∧ v < 256 ^ k)) := by
  unfold putE
  by_cases h : 1 ≤ n ∧ n ≤ 8
  · refine .inr ⟨n.toNat, by omega, by omega, by omega, ?_⟩
    rw [if_pos h]
    by_cases h2 : v < 256 ^ n.toNat
    · exact .inr ⟨if_pos h2, h2⟩
    · exact .inl ⟨if_neg h2, h2⟩
  · exact .inl ⟨if_neg h, h⟩

theorem put_any (A : Option Addr) (l : List UInt8) (n c v : Nat) (k : Int) (w : World) (h : HasB w w.heap.size A n l) (hn : n ≤ 1073741824) (hv : v < 18446744073709551616) (hk : -9223372036854775808 ≤ k ∧ k ≤ 9223372036854775807) :
    Calls Try.prog 13 #[.slice A n c, .int .u64 (v : Int), .int .i64 k] w (RetBE w (putL l v k) (putE v k)) := by
  rcases putE_cases v k hk with ⟨he, hno⟩ | ⟨k, rfl, h1, h8, ⟨he, hno⟩ | ⟨he, hfit⟩⟩
  · have hL : putL l v k = [] := by unfold putL; rw [he]; rfl
    rw [he, hL]
    obtain ⟨hk1, hk2⟩ := hk
    go_enter Try.func13, Try.ntmps13
    go_wp2_with (go_at_call 37; refine (mayWidth_no _ _ ⟨hk1, hk2⟩ hno).mono ?_; rintro e w' ⟨rfl, rfl⟩)
    go_ret2
    exact ⟨none, 0, 0, rfl, OwnB.nil _ _, Below.refl _ _⟩
  · have hL : putL l v (k : Int) = [] := by unfold putL; rw [he]; rfl
    rw [he, hL]
    have t : ((v : Int) / 2 ^ (8 * k) != 0) = true := by
      have hp : 0 < 256 ^ k := Nat.pow_pos (by omega)
      have : 1 ≤ v / 256 ^ k := (Nat.le_div_iff_mul_le hp).2 (by omega)
      rw [shr_256]
      simp only [bne_iff_ne]
      omega
    have HN := Lib.hid hno
    clear hno
    go_enter Try.func13, Try.ntmps13
    go_wp2_with (go_at_call 37; refine (mayWidth_yes _ _ (by omega) (by omega)).mono ?_; rintro e w' ⟨rfl, rfl⟩)
    go_ret2
    exact ⟨none, 0, 0, rfl, OwnB.nil _ _, Below.refl _ _⟩
  · have hL : putL l v (k : Int) = l ++ be k v := by unfold putL; rw [he, if_pos rfl, Int.toNat_natCast]
    rw [he, hL]
    exact put_ok A l n c v k w h hn hv h1 h8 hfit

/-! ### Count, Text -/
theorem leb_le10 (v : Nat) (h : v < 18446744073709551616) : (leb v).length ≤ 10 := leb_length v 9 (by omega)

theorem count_any (A : Option Addr) (l : List UInt8) (n c v : Nat) (w : World) (h : HasB w w.heap.size A n l) (hn : n ≤ 1073741824) (hv : v < 18446744073709551616) :
    Calls Try.prog 15 #[.slice A n c, .int .u64 (v : Int)] w (RetB w (l ++ leb v)) := by
  have hl := h.len
  have HL := Lib.hid hl
  clear hl
  go_enter Try.func15, Try.ntmps15
  go_wp2_with (first
    | (go_at_call 40; refine (countLen_any _ _ hv).mono ?_; rintro e w' ⟨r, hr, rfl, rfl⟩)
    | (go_at_call 38; refine (cwr_any A l n c r _ h (by omega)).mono ?_; rintro e w1 ⟨A1, n1, c1, rfl, hown1, hb1⟩)
    | (go_at_call 39; refine (appendCount_any A1 l n1 c1 v _ _ hown1 (by have := HL.out; omega) hv hb1.size).mono ?_; rintro e w2 ⟨A2, n2, c2, rfl, hown2, hb2⟩))
  go_ret
  exact ⟨A2, n2, c2, rfl, hown2, hb1.trans hb2⟩

/-- The error of Text. -/
def textE (s : List UInt8) : Int := if s.length ≤ 65536 then 0 else 2
/-- The bytes that Text hands back. -/
def textL (l s : List UInt8) : List UInt8 := if s.length ≤ 65536 then l ++ leb s.length ++ s else []

theorem text_any (A C : Option Addr) (l s : List UInt8) (n c m d : Nat) (w : World) (h : HasB w w.heap.size A n l) (hs : HasB w w.heap.size C m s) (hn : n ≤ 1073741824) (hm : m ≤ 1073741824) :
    Calls Try.prog 16 #[.slice A n c, .slice C m d] w (RetBE w (textL l s) (textE s)) := by
  have hl := h.len
  have hsl := hs.len
  by_cases hbig : m ≤ 65536
  · have e1 : textE s = 0 := by unfold textE; rw [if_pos (by omega)]
    have e2 : textL l s = l ++ leb m ++ s := by unfold textL; rw [if_pos (by omega), ← hsl]
    rw [e1, e2]
    have HL := Lib.hid hl
    have HS := Lib.hid hsl
    have hL10 := leb_le10 m (by omega)
    have H10 := Lib.hid hL10
    clear hl hsl e1 e2 hL10
    go_enter Try.func16, Try.ntmps16
    go_wp2_with (first
      | (go_at_call 40; refine (countLen_any _ _ (by omega)).mono ?_; rintro e w' ⟨r, hr, rfl, rfl⟩)
      | (go_at_call 38; refine (cwr_any A l n c (r + m) _ h (by omega)).mono ?_; rintro e w1 ⟨A1, n1, c1, rfl, hown1, hb1⟩)
      | (go_at_call 39; refine (appendCount_any A1 l n1 c1 m _ _ hown1 (by have := HL.out; omega) (by omega) hb1.size).mono ?_; rintro e w2 ⟨A2, n2, c2, rfl, hown2, hb2⟩)
      | (at_builtin; refine wp_app rfl _ _ rfl Try.underlying22 infoU8 w.heap.size _ (l ++ leb m) s rfl hown2 w.heap.size C m d rfl (hs.below (hb1.trans hb2)) (by have := HL.out; have := HS.out; have := H10.out; simp; omega) (hb1.trans hb2).size ?_; intro A3 n3 c3 w3 hown3 hg3 hb3))
    go_ret2
    exact ⟨A3, n3, c3, rfl, hown3, (hb1.trans hb2).trans hb3⟩
  · have e1 : textE s = 2 := by unfold textE; rw [if_neg (by omega)]
    have e2 : textL l s = [] := by unfold textL; rw [if_neg (by omega)]
    rw [e1, e2]
    clear hl hsl e1 e2
    go_enter Try.func16, Try.ntmps16
    go_wp2_with fail
    go_ret2
    exact ⟨none, 0, 0, rfl, OwnB.nil _ _, Below.refl _ _⟩
end Go.Proofs.Ytpbffcmmhffdcaa
