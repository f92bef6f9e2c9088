/-
  The law OctetBack walked: what was written is read, whatever stands behind it.
-/
import Derived.Test.YtpbffcmmhffdcaaBeg
import Derived.Test.YtpbffcmmhffdcaaTake
import Derived.Deep.RegionWith
namespace Go.Proofs.Ytpbffcmmhffdcaa
open Go.RowKit
set_option linter.unusedVariables false

theorem num_be : ∀ (n v : Nat), num (be n v) = v % 256 ^ n
  | 0, v => by simp [be, num, Nat.mod_one]
  | n + 1, v => by
    have e : v % (256 * 256 ^ n) = v % 256 + 256 * (v / 256 % 256 ^ n) := Nat.mod_mul
    have e2 : (UInt8.ofNat v).toNat = v % 256 := UInt8.toNat_ofNat'
    rw [be, num_snoc, num_be n (v / 256), e2, Nat.pow_succ, Nat.mul_comm (256 ^ n), e]
    omega
theorem num_be8 (v : Nat) (rest : List UInt8) (h : v < 18446744073709551616) : num ((([] ++ be 8 v ++ rest).drop 0).take 8) = v := by
  rw [List.drop_zero, List.nil_append, List.take_append_of_le_length (by rw [be_length]; omega), List.take_of_length_le (by rw [be_length]; omega), num_be, Nat.mod_eq_of_lt (by rw [show 256 ^ 8 = 18446744073709551616 by decide]; exact h)]

theorem tcS_leb (v : Nat) : ∀ (i a : Nat) (rest : List UInt8), i ≤ 9 → v * 128 ^ i < 18446744073709551616 → (0 < i → 0 < v) → tcS (leb v ++ rest) i a = (a + v * 128 ^ i, i + (leb v).length, 0) := by
  induction v using Nat.strongRecOn with
  | _ v ih =>
    intro i a rest hi hv hpos
    have hp := pow_128_le i hi
    have h9 : i = 9 → v ≤ 1 := by
      intro h
      subst h
      rw [show 128 ^ 9 = 9223372036854775808 by decide] at hv
      omega
    by_cases hs : v < 128
    · have ht : (UInt8.ofNat v).toNat = v := by rw [UInt8.toNat_ofNat']; exact Nat.mod_eq_of_lt (by omega)
      rw [leb_small hs, List.cons_append, tcS_end (by rw [ht]; omega) (by rw [ht]; exact hs), ht]
      rfl
    · have ht : (UInt8.ofNat (v % 128 + 128)).toNat = v % 128 + 128 := by rw [UInt8.toNat_ofNat']; exact Nat.mod_eq_of_lt (by omega)
      have hi9 : i ≠ 9 := by intro h; have := h9 h; omega
      have hle : v / 128 * 128 ≤ v := Nat.div_mul_le_self v 128
      have hmul : v / 128 * 128 ^ (i + 1) = v / 128 * 128 * 128 ^ i := by rw [Nat.pow_succ, Nat.mul_assoc, Nat.mul_comm 128]
      have hle2 : v / 128 * 128 * 128 ^ i ≤ v * 128 ^ i := Nat.mul_le_mul_right _ hle
      rw [leb_big hs, List.cons_append, tcS_on (by rw [ht]; omega) (by rw [ht]; omega), ht, ih (v / 128) (by omega) (i + 1) _ rest (by omega) (by rw [hmul]; omega) (by omega), hmul]
      have hsum : (v % 128 + 128 - 128) * 128 ^ i + v / 128 * 128 * 128 ^ i = v * 128 ^ i := by
        rw [← Nat.add_mul]
        congr 1
        omega
      rw [List.length_cons]
      refine Prod.ext ?_ (Prod.ext ?_ rfl)
      · show a + (v % 128 + 128 - 128) * 128 ^ i + v / 128 * 128 * 128 ^ i = a + v * 128 ^ i
        omega
      · show i + 1 + (leb (v / 128)).length = i + ((leb (v / 128)).length + 1)
        omega

theorem tcS_leb0 (v : Nat) (rest : List UInt8) (h : v < 18446744073709551616) : tcS (leb v ++ rest) 0 0 = (v, (leb v).length, 0) := by
  rw [tcS_leb v 0 0 rest (by omega) (by simpa using h) (by omega)]
  simp

theorem tt_text (s rest : List UInt8) (h : s.length ≤ 65536) : ttE (textL [] s ++ rest) = 0 ∧ ttN (textL [] s ++ rest) = (textL [] s).length ∧ ttL (textL [] s ++ rest) = s := by
  have e : textL [] s = leb s.length ++ s := by unfold textL; rw [if_pos h]; simp
  have ht : tcS (textL [] s ++ rest) 0 0 = (s.length, (leb s.length).length, 0) := by
    rw [e, List.append_assoc]
    exact tcS_leb0 _ _ (by omega)
  have hE : ttE (textL [] s ++ rest) = 0 := by
    unfold ttE
    rw [ht]
    simp only [if_pos]
    rw [if_neg (by omega), if_neg (by rw [e]; simp)]
  refine ⟨hE, ?_, ?_⟩
  · unfold ttN
    rw [if_pos hE, ht, e]
    simp
  · unfold ttL
    rw [if_pos hE, ht, e]
    show (((leb s.length ++ s) ++ rest).drop (leb s.length).length).take s.length = s
    rw [List.append_assoc, List.drop_left, List.take_left]

set_option maxHeartbeats 1000000 in
theorem back_any (A C : Option Addr) (s rest : List UInt8) (n c m d v : Nat) (z : Int) (w : World) (hs : HasB w w.heap.size A n s) (hr : HasB w w.heap.size C m rest) (hn : n ≤ maxLen) (hm : m ≤ maxLen)
    (hv : v < 18446744073709551616) (hz : -9223372036854775808 ≤ z ∧ z ≤ 9223372036854775807) :
    Calls Try.prog 5 #[.slice A n c, .slice C m d, .int .u64 (v : Int), .int .i64 z] w (RetTrue w) := by
  unfold maxLen at hn hm
  by_cases c1 : n ≤ 65536
  · by_cases c2 : m ≤ 65536
    · have hsl := hs.len
      have hrl := hr.len
      have f8 : v < 256 ^ 8 := by rw [show 256 ^ 8 = 18446744073709551616 by decide]; exact hv
      have f1 := num_be8 v rest hv
      have f2 := tcS_leb0 v rest hv
      obtain ⟨t1, t2, t3⟩ := tt_text s rest (by omega)
      have tE : textE s = 0 := by unfold textE; rw [if_pos (by omega)]
      have tL : (textL [] s).length ≤ 65546 := by
        unfold textL
        rw [if_pos (by omega)]
        have := leb_le10 s.length (by omega)
        simp
        omega
      have l10 := leb_le10 v hv
      have zz := zag_zig z
      have zv := zig_zag (v : Int) (by omega)
      have hzb := zigI_bd z hz
      have hvb := zagI_bd (v : Int) (by omega)
      have hzig := fun W => zig_any z W hz
      have hzag := fun W => zag_any (zigI z) W hzb
      have hzag2 := fun W => zag_any (v : Int) W (by omega)
      have hzig2 := fun W => zig_any (zagI (v : Int)) W hvb
      rw [zz] at hzag
      rw [zv] at hzig2
      generalize zigI z = zg at *
      generalize zagI (v : Int) = zw at *
      have H1 := Lib.hid hzig
      have H2 := Lib.hid hzag
      have H3 := Lib.hid hzag2
      have H4 := Lib.hid hzig2
      have F1 := Lib.hid f1
      have F2 := Lib.hid f2
      have F8 := Lib.hid f8
      have T1 := Lib.hid t1
      have T2 := Lib.hid t2
      have T3 := Lib.hid t3
      have TE := Lib.hid tE
      have TL := Lib.hid tL
      have L10 := Lib.hid l10
      have HSL := Lib.hid hsl
      have HRL := Lib.hid hrl
      clear hzig hzag hzag2 hzig2 f1 f2 f8 t1 t2 t3 tE tL l10 hsl hrl zz zv hzb hvb
      go_enter Try.func5, Try.ntmps5
      go_wp2_with fail
      refine (begun_any _).mono ?_
      rintro e w1 ⟨rfl, hb1⟩
      go_wp2_with fail
      refine (put_ok none [] 0 0 v 8 _ (HasB.nil _ _ _) (by omega) hv (by omega) (by omega) F8.out).mono ?_
      rintro e w2 ⟨A2, n2, c2, rfl, hown2, hb2⟩
      have b2 : Below w.heap.size w w2 := hb1.trans (hb2.mono hb1.size)
      have g2 : (([] : List UInt8) ++ be 8 v).length ≤ 8 := by simp [be_length]
      have G2 := Lib.hid g2
      clear g2
      go_wp2_with (at_builtin; refine wp_app rfl _ _ rfl Try.underlying22 infoU8 w1.heap.size _ _ rest rfl hown2 w.heap.size C m d rfl (hr.below b2) (by have := G2.out; have := HRL.out; omega) hb2.size ?_; intro A3 n3 c3 w3 hown3 hg3 hb3)
      have b3 : Below w.heap.size w w3 := b2.trans (hb3.mono hb1.size)
      have hn3 := hown3.len
      have hc3 := hown3.caps
      have hn3' : 8 ≤ n3 ∧ n3 ≤ 65544 := by
        rw [List.length_append, List.length_append, be_length] at hn3
        have := HRL.out
        simp at hn3
        omega
      refine (at_ok A3 _ n3 c3 0 8 _ (hown3.has) (by omega) hc3.1 hc3.2 (by omega) (by omega) (by omega)).mono ?_
      rintro e w' ⟨rfl, rfl⟩
      rw [F1.out]
      clear hn3 hc3 hn3'
      go_wp2_with fail
      refine (count_any none [] 0 0 v _ (HasB.nil _ _ _) (by omega) hv).mono ?_
      rintro e w4 ⟨A4, n4, c4, rfl, hown4, hb4⟩
      rw [List.nil_append] at hown4
      have b4 : Below w.heap.size w w4 := b3.trans (hb4.mono b3.size)
      have HN4 : Hid (n4 = (leb v).length) := Lib.hid hown4.len
      go_wp2_with (at_builtin; refine wp_app rfl _ _ rfl Try.underlying22 infoU8 w3.heap.size _ _ rest rfl hown4 w.heap.size C m d rfl (hr.below b4) (by have := L10.out; have := HRL.out; omega) hb4.size ?_; intro A5 n5 c5 w5 hown5 hg5 hb5)
      have b5 : Below w.heap.size w w5 := b4.trans (hb5.mono b3.size)
      refine (takeCount_any A5 _ n5 c5 _ hown5.has (by have := hown5.len; rw [List.length_append] at this; have := L10.out; have := HRL.out; omega)).mono ?_
      rintro e w' ⟨rfl, rfl⟩
      rw [F2.out, ← HN4.out]
      unfold tcRet
      go_wp2_with fail
      refine (text_any none A [] s 0 0 n c _ (HasB.nil _ _ _) (hs.on b5) (by omega) (by omega)).mono ?_
      rintro e w6 ⟨A6, n6, c6, rfl, hown6, hb6⟩
      rw [TE.out]
      have b6 : Below w.heap.size w w6 := b5.trans (hb6.mono b5.size)
      have HN6 : Hid (n6 = (textL [] s).length) := Lib.hid hown6.len
      go_wp2_with (at_builtin; refine wp_app rfl _ _ rfl Try.underlying22 infoU8 w5.heap.size _ _ rest rfl hown6 w.heap.size C m d rfl (hr.below b6) (by have := TL.out; have := HRL.out; omega) hb6.size ?_; intro A7 n7 c7 w7 hown7 hg7 hb7)
      have b7 : Below w.heap.size w w7 := b6.trans (hb7.mono b5.size)
      refine (takeText_any A7 _ n7 c7 _ hown7.has (by have := hown7.len; rw [List.length_append] at this; have := TL.out; have := HRL.out; omega) hown7.caps.1 hown7.caps.2).mono ?_
      rintro e w8 ⟨A8, n8, c8, rfl, hown8, hb8⟩
      rw [T3.out] at hown8
      rw [T1.out, T2.out, ← HN6.out]
      have b8 : Below w.heap.size w w8 := b7.trans (hb8.mono b7.size)
      have k1 := run_conv (P := Try.prog) Try.underlying22 Try.underlying5 Try.underlying9 _ _ _ c8 _ hown8.has
      have k2 := run_conv (P := Try.prog) Try.underlying22 Try.underlying5 Try.underlying9 _ _ _ c _ (hs.on b8)
      go_wp2_with (first
        | (go_at_call_of 28 (Value.int .i64 z); refine (H1.out _).mono ?_; rintro e w' ⟨rfl, rfl⟩)
        | (go_at_call_of 27 (Value.int .u64 zg); refine (H2.out _).mono ?_; rintro e w' ⟨rfl, rfl⟩)
        | (go_at_call_of 27 (Value.int .u64 (v : Int)); refine (H3.out _).mono ?_; rintro e w' ⟨rfl, rfl⟩)
        | (go_at_call_of 28 (Value.int .i64 zw); refine (H4.out _).mono ?_; rintro e w' ⟨rfl, rfl⟩))
      go_ret
      exact ⟨rfl, b8⟩
    · go_enter Try.func5, Try.ntmps5
      go_wp2_with fail
      refine (begun_any _).mono ?_
      rintro e w1 ⟨rfl, hb1⟩
      go_wp2_with fail
      go_ret
      exact ⟨rfl, hb1⟩
  · go_enter Try.func5, Try.ntmps5
    go_wp2_with fail
    refine (begun_any _).mono ?_
    rintro e w1 ⟨rfl, hb1⟩
    go_wp2_with fail
    go_ret
    exact ⟨rfl, hb1⟩
end Go.Proofs.Ytpbffcmmhffdcaa
