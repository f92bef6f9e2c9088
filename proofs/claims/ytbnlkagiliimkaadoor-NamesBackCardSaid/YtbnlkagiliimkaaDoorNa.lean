/-
  Own work. names: what a byte is worth, letters, digits; the contracts of isLetter, worth, mayFollow, digit, allDigits.
-/
import Derived.Test.YtbnlkagiliimkaaDoorNp
namespace Go.Proofs.YtbnlkagiliimkaaDoor
open Go.RowKit
set_option linter.unusedVariables false
set_option linter.unusedSimpArgs false

/-- What a hexadecimal digit stands for; 16: none. -/
def wthE (c : UInt8) : Nat := if 48 ≤ c.toNat ∧ c.toNat ≤ 57 then c.toNat - 48 else if 97 ≤ c.toNat ∧ c.toNat ≤ 102 then c.toNat - 87 else 16
theorem wth_le (c : UInt8) : wthE c ≤ 16 := by
  unfold wthE
  split
  · omega
  · split <;> omega
theorem wth_hex (c : UInt8) : isHex c = decide (wthE c < 16) := by
  unfold isHex dgE wthE
  rw [decide_eq_decide]
  split
  · omega
  · split <;> omega
theorem wth_dec (c : UInt8) : isDec c = decide (wthE c < 10) := by
  unfold isDec wthE
  rw [decide_eq_decide]
  split
  · omega
  · split <;> omega
theorem wth_dg {c : UInt8} (h : wthE c < 16) : dgE c = (wthE c : Int) := by
  unfold dgE wthE at *
  split
  · omega
  · rename_i h1
    rw [if_neg h1] at h
    split
    · omega
    · rename_i h2; rw [if_neg h2] at h; omega

def isLet (c : UInt8) : Bool := decide (97 ≤ c.toNat ∧ c.toNat ≤ 122)

set_option maxRecDepth 100000 in
theorem isLetter_any (c : UInt8) (w : World) : Calls Tryd.prog 24 #[.int .u8 (c.toNat : Int)] w fun e w' => e = .returned (.bool (isLet c)) ∧ w = w' := by
  have hc := c.toNat_lt
  by_cases h1 : 97 ≤ c.toNat
  · have q1 : (97 : Int) ≤ (c.toNat : Int) := by omega
    by_cases h2 : c.toNat ≤ 122
    · have q2 : (c.toNat : Int) ≤ 122 := by omega
      have hl : isLet c = true := decide_eq_true ⟨h1, h2⟩
      rw [hl]
      clear hl h1 h2
      go_enter Tryd.func24, Tryd.ntmps24
      go_wp2_with fail
      go_ret
      exact ⟨rfl, rfl⟩
    · have q2 : ¬ (c.toNat : Int) ≤ 122 := by omega
      have hl : isLet c = false := decide_eq_false (by omega)
      rw [hl]
      clear hl h1 h2
      go_enter Tryd.func24, Tryd.ntmps24
      go_wp2_with fail
      go_ret
      exact ⟨rfl, rfl⟩
  · have q1 : ¬ (97 : Int) ≤ (c.toNat : Int) := by omega
    have hl : isLet c = false := decide_eq_false (by omega)
    rw [hl]
    clear hl h1
    go_enter Tryd.func24, Tryd.ntmps24
    go_wp2_with fail
    go_ret
    exact ⟨rfl, rfl⟩

set_option maxRecDepth 100000 in
theorem worth_any (c : UInt8) (w : World) : Calls Tryd.prog 27 #[.int .u8 (c.toNat : Int)] w fun e w' => e = .returned (.int .u8 (wthE c : Int)) ∧ w = w' := by
  have hc := c.toNat_lt
  obtain ⟨v, hv⟩ : ∃ v : Nat, wthE c = v := ⟨_, rfl⟩
  rw [hv]
  have hv' := hv
  unfold wthE at hv'
  obtain ⟨n, hn⟩ : ∃ n, c.toNat = n := ⟨_, rfl⟩
  rw [hn] at hv' hc ⊢
  clear hv hn
  rcases (show (48 ≤ n ∧ n ≤ 57) ∨ (97 ≤ n ∧ n ≤ 102) ∨ (n < 48) ∨ (57 < n ∧ n < 97) ∨ (102 < n) by omega) with hq | hq | hq | hq | hq
  · have q1 : (48 : Int) ≤ (n : Int) := by omega
    have q2 : (n : Int) ≤ 57 := by omega
    rw [if_pos hq] at hv'
    have hs : (n : Int) - 48 = (v : Int) := by omega
    have hsu : IntKind.u8.wrap ((n : Int) - 48) = (v : Int) := by rw [IntKind.wrap_u8]; omega
    clear hv' hq
    go_enter Tryd.func27, Tryd.ntmps27
    go_wp2_with fail
    go_ret
    exact ⟨rfl, rfl⟩
  · have q1 : (48 : Int) ≤ (n : Int) := by omega
    have q2 : ¬ (n : Int) ≤ 57 := by omega
    have q3 : (97 : Int) ≤ (n : Int) := by omega
    have q4 : (n : Int) ≤ 102 := by omega
    rw [if_neg (by omega), if_pos hq] at hv'
    obtain ⟨m, hm⟩ : ∃ m : Nat, n - 97 = m := ⟨_, rfl⟩
    have hs : (n : Int) - 97 = (m : Int) := by omega
    have hsu : IntKind.u8.wrap ((n : Int) - 97) = (m : Int) := by rw [IntKind.wrap_u8]; omega
    have hs2 : (m : Int) + 10 = (v : Int) := by omega
    have hsu2 : IntKind.u8.wrap ((m : Int) + 10) = (v : Int) := by rw [IntKind.wrap_u8]; omega
    clear hv' hq hm
    go_enter Tryd.func27, Tryd.ntmps27
    go_wp2_with fail
    go_ret
    exact ⟨rfl, rfl⟩
  · have q1 : ¬ (48 : Int) ≤ (n : Int) := by omega
    have q3 : ¬ (97 : Int) ≤ (n : Int) := by omega
    rw [if_neg (by omega), if_neg (by omega)] at hv'
    subst hv'
    clear hq
    go_enter Tryd.func27, Tryd.ntmps27
    go_wp2_with fail
    go_ret
    exact ⟨rfl, rfl⟩
  · have q1 : (48 : Int) ≤ (n : Int) := by omega
    have q2 : ¬ (n : Int) ≤ 57 := by omega
    have q3 : ¬ (97 : Int) ≤ (n : Int) := by omega
    rw [if_neg (by omega), if_neg (by omega)] at hv'
    subst hv'
    clear hq
    go_enter Tryd.func27, Tryd.ntmps27
    go_wp2_with fail
    go_ret
    exact ⟨rfl, rfl⟩
  · have q1 : (48 : Int) ≤ (n : Int) := by omega
    have q2 : ¬ (n : Int) ≤ 57 := by omega
    have q3 : (97 : Int) ≤ (n : Int) := by omega
    have q4 : ¬ (n : Int) ≤ 102 := by omega
    rw [if_neg (by omega), if_neg (by omega)] at hv'
    subst hv'
    clear hq
    go_enter Tryd.func27, Tryd.ntmps27
    go_wp2_with fail
    go_ret
    exact ⟨rfl, rfl⟩

set_option maxRecDepth 100000 in
theorem mayFollow_any (c : UInt8) (w : World) : Calls Tryd.prog 25 #[.int .u8 (c.toNat : Int)] w fun e w' => e = .returned (.bool (mayC c)) ∧ w = w' := by
  have c1 := isLetter_any c w
  have c2 := worth_any c w
  have hle := wth_le c
  have hmay : mayC c = (isLet c || (decide (wthE c < 10) || decide (c.toNat = 45))) := by
    rw [← wth_dec]
    unfold mayC isLet isDec
    rw [Bool.eq_iff_iff]
    simp only [Bool.or_eq_true, decide_eq_true_iff]
  have hlet : isLet c = true → True := fun _ => trivial
  obtain ⟨v, hv⟩ : ∃ v, wthE c = v := ⟨_, rfl⟩
  rw [hv] at c2 hle hmay
  have C1 := Lib.hid c1
  have C2 := Lib.hid c2
  clear c1 c2 hv hlet
  obtain ⟨r, hr⟩ : ∃ r, mayC c = r := ⟨_, rfl⟩
  rw [hr] at hmay ⊢
  obtain ⟨n, hn⟩ : ∃ n, c.toNat = n := ⟨_, rfl⟩
  have hcl := c.toNat_lt
  rw [hn] at hmay C1 C2 hcl ⊢
  clear hr hn
  cases hl : isLet c with
  | true =>
    rw [hl] at hmay C1
    obtain rfl : r = true := by rw [hmay]; rfl
    clear hl hmay
    go_enter Tryd.func25, Tryd.ntmps25
    go_wp2_with (first
      | (go_at_call 24; refine C1.out.mono ?_; rintro e w1 ⟨rfl, rfl⟩)
      | (go_at_call 27; refine C2.out.mono ?_; rintro e w1 ⟨rfl, rfl⟩))
    go_ret
    exact ⟨rfl, rfl⟩
  | false =>
    rw [hl] at hmay C1
    clear hl
    by_cases hw : v < 10
    · have hwi : (v : Int) < 10 := by omega
      obtain rfl : r = true := by rw [hmay, decide_eq_true hw]; rfl
      clear hmay hw
      go_enter Tryd.func25, Tryd.ntmps25
      go_wp2_with (first
        | (go_at_call 24; refine C1.out.mono ?_; rintro e w1 ⟨rfl, rfl⟩)
        | (go_at_call 27; refine C2.out.mono ?_; rintro e w1 ⟨rfl, rfl⟩))
      go_ret
      exact ⟨rfl, rfl⟩
    · have hwi : ¬ (v : Int) < 10 := by omega
      rw [decide_eq_false hw] at hmay
      by_cases h45 : n = 45
      · obtain rfl : r = true := by rw [hmay, decide_eq_true h45]; rfl
        subst h45
        clear hmay hw
        go_enter Tryd.func25, Tryd.ntmps25
        go_wp2_with (first
          | (go_at_call 24; refine C1.out.mono ?_; rintro e w1 ⟨rfl, rfl⟩)
          | (go_at_call 27; refine C2.out.mono ?_; rintro e w1 ⟨rfl, rfl⟩))
        go_ret
        exact ⟨rfl, rfl⟩
      · obtain rfl : r = false := by rw [hmay, decide_eq_false h45]; rfl
        have q4 : ((n : Int) == 45) = false := by rw [beq_eq_false_iff_ne]; omega
        clear hmay hw
        go_enter Tryd.func25, Tryd.ntmps25
        go_wp2_with (first
          | (go_at_call 24; refine C1.out.mono ?_; rintro e w1 ⟨rfl, rfl⟩)
          | (go_at_call 27; refine C2.out.mono ?_; rintro e w1 ⟨rfl, rfl⟩))
        go_ret
        exact ⟨by simp [hwi], rfl⟩

theorem hexC_val : ∀ x : Fin 16, (hexC x.val).toNat = if x.val < 10 then 48 + x.val else 87 + x.val := by decide +kernel
set_option maxRecDepth 100000 in
/-- The digit of half a byte. -/
theorem pdigit_any (x : Nat) (hx : x < 16) (w : World) : Calls Tryd.prog 29 #[.int .u8 (x : Int)] w fun e w' => e = .returned (.int .u8 ((hexC x).toNat : Int)) ∧ w = w' := by
  have hv := hexC_val ⟨x, hx⟩
  dsimp only at hv
  obtain ⟨v, hvv⟩ : ∃ v, (hexC x).toNat = v := ⟨_, rfl⟩
  rw [hvv] at hv ⊢
  clear hvv
  by_cases h1 : x < 10
  · have q1 : (x : Int) < 10 := by omega
    rw [if_pos h1] at hv
    have hs : 48 + (x : Int) = (v : Int) := by omega
    have hsu : IntKind.u8.wrap (48 + (x : Int)) = (v : Int) := by rw [IntKind.wrap_u8]; omega
    clear hv h1
    go_enter Tryd.func29, Tryd.ntmps29
    go_wp2_with fail
    go_ret
    exact ⟨rfl, rfl⟩
  · have q1 : ¬ (x : Int) < 10 := by omega
    rw [if_neg h1] at hv
    obtain ⟨m, hm⟩ : ∃ m : Nat, 97 + x = m := ⟨_, rfl⟩
    have hs : 97 + (x : Int) = (m : Int) := by omega
    have hsu : IntKind.u8.wrap (97 + (x : Int)) = (m : Int) := by rw [IntKind.wrap_u8]; omega
    have hs2 : (m : Int) - 10 = (v : Int) := by omega
    have hsu2 : IntKind.u8.wrap ((m : Int) - 10) = (v : Int) := by rw [IntKind.wrap_u8]; omega
    clear hv h1 hm
    go_enter Tryd.func29, Tryd.ntmps29
    go_wp2_with fail
    go_ret
    exact ⟨rfl, rfl⟩

set_option maxRecDepth 100000 in
/-- Whether all bytes are digits of a base. -/
theorem allDigits_any (l : List UInt8) (b : Nat) (hb : b < 256) (w : World) (hl : l.length ≤ 9223372036854775807) :
    Calls Tryd.prog 26 #[.string ⟨l.toArray⟩, .int .u8 (b : Int)] w fun e w' => e = .returned (.bool (l.all fun c => decide (wthE c < b))) ∧ w = w' := by
  obtain ⟨S, hS⟩ : ∃ S : ByteArray, S = ⟨l.toArray⟩ := ⟨_, rfl⟩
  have hsz := str_size l S hS
  rw [← hS]
  have HS := Lib.hid hS
  obtain ⟨n, hn⟩ : ∃ n, l.length = n := ⟨_, rfl⟩
  rw [hn] at hsz hl
  have HN := Lib.hid hn
  obtain ⟨p, hp⟩ : ∃ p : UInt8 → Bool, (fun c => decide (wthE c < b)) = p := ⟨_, rfl⟩
  rw [hp]
  have HP := Lib.hid hp
  clear hS hn hp
  go_enter Tryd.func26, Tryd.ntmps26
  go_wp2_with fail
  go_loopw [8] (fun x wr => ∃ j : Nat, j ≤ n ∧ x = .int .i64 (j : Int) ∧ (l.take j).all p = true ∧ wr = w) (fun x _ => n - (intOf x).toNat)
  case atStart => exact ⟨0, by omega, rfl, by simp, rfl⟩
  case round =>
    obtain ⟨j, hj, rfl, hall, rfl⟩ := hrel
    by_cases hlt : j < n
    · obtain ⟨y, hy⟩ : ∃ y, l[j]? = some y := ⟨_, List.getElem?_eq_getElem (by rw [HN.out]; exact hlt)⟩
      have hsj := fun hj => str_at l j y hy S HS.out hj
      have hyl := y.toNat_lt
      have HYJ := Lib.hid hy
      have HA := Lib.hid hall
      have c1 := worth_any y wr
      have hpy : p y = decide (wthE y < b) := by rw [← HP.out]
      have hle := wth_le y
      obtain ⟨v, hv⟩ : ∃ v, wthE y = v := ⟨_, rfl⟩
      rw [hv] at c1 hpy hle
      have C1 := Lib.hid c1
      clear hy hall c1 hv
      by_cases hvb : v < b
      · have q1 : (v : Int) < (b : Int) := by omega
        have q2 : ¬ (b : Int) ≤ (v : Int) := by omega
        have q3 : ¬ b ≤ v := by omega
        have HC : Hid (p y = true) := Lib.hid (by rw [hpy, decide_eq_true hvb])
        clear hpy
        go_wp2_with (go_at_call 27; refine C1.out.mono ?_; rintro e w1 ⟨rfl, rfl⟩)
        go_roundw
        case rel => exact ⟨j + 1, by omega, by go_num, by rw [all_take HYJ.out, HA.out, HC.out]; rfl, trivial⟩
        case measure => simp [intOf]; omega
      · have q2 : (b : Int) ≤ (v : Int) := by omega
        have q3 : b ≤ v := by omega
        have HC : Hid (p y = false) := Lib.hid (by rw [hpy, decide_eq_false hvb])
        clear hpy
        go_wp2_with (go_at_call 27; refine C1.out.mono ?_; rintro e w1 ⟨rfl, rfl⟩)
        go_ret
        exact ⟨by rw [all_false HYJ.out HC.out]; rfl, rfl⟩
    · obtain rfl : j = n := by omega
      rw [List.take_of_length_le (by rw [HN.out]; exact Nat.le_refl _)] at hall
      have HA := Lib.hid hall
      clear hall
      go_wp2_with fail
      go_ret
      exact ⟨by rw [HA.out]; rfl, rfl⟩
end Go.Proofs.YtbnlkagiliimkaaDoor
