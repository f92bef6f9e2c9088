/-
  Own work. Numbers in digits: values, orders, and what is read again; no walk.
-/
import Derived.Test.YtbnlkagiliimkaaDoorNp
namespace Go.Proofs.YtbnlkagiliimkaaDoor
open Go.RowKit
set_option linter.unusedVariables false
set_option linter.unusedSimpArgs false

theorem fold_ge : ∀ (l : List UInt8) (a : Nat), a ≤ l.foldl (fun a c => a * 10 + (c.toNat - 48)) a
  | [], a => Nat.le_refl _
  | c :: l, a => by
    have := fold_ge l (a * 10 + (c.toNat - 48))
    rw [List.foldl_cons]
    omega
theorem fold_add : ∀ (l : List UInt8) (a : Nat), l.foldl (fun a c => a * 10 + (c.toNat - 48)) a = a * 10 ^ l.length + decV l
  | [], a => by simp [decV]
  | c :: l, a => by
    have h1 := fold_add l (a * 10 + (c.toNat - 48))
    have h2 := fold_add l (0 * 10 + (c.toNat - 48))
    unfold decV
    rw [List.foldl_cons, List.foldl_cons, h1, h2, List.length_cons, Nat.pow_succ, Nat.add_mul, Nat.mul_assoc, Nat.mul_comm 10]
    simp
    omega
theorem decV_cons (c : UInt8) (l : List UInt8) : decV (c :: l) = (c.toNat - 48) * 10 ^ l.length + decV l := by
  have := fold_add l (0 * 10 + (c.toNat - 48))
  unfold decV at *
  rw [List.foldl_cons, this]
  simp
theorem decV_snoc (l : List UInt8) (c : UInt8) : decV (l ++ [c]) = decV l * 10 + (c.toNat - 48) := by simp [decV]
theorem decV_take {l : List UInt8} {j : Nat} {y : UInt8} (h : l[j]? = some y) : decV (l.take (j + 1)) = decV (l.take j) * 10 + (y.toNat - 48) := by
  obtain ⟨hj, rfl⟩ := List.getElem?_eq_some_iff.1 h
  rw [List.take_succ_eq_append_getElem hj, decV_snoc]
theorem decV_mono (l : List UInt8) (j : Nat) : decV (l.take j) ≤ decV l := by
  have := fold_ge (l.drop j) (decV (l.take j))
  conv => rhs; rw [← List.take_append_drop j l]
  unfold decV at *
  rw [List.foldl_append]
  exact this
theorem isDec_iff (c : UInt8) : isDec c = true ↔ 48 ≤ c.toNat ∧ c.toNat ≤ 57 := by unfold isDec; rw [decide_eq_true_iff]
theorem decV_lt : ∀ (l : List UInt8), l.all isDec = true → decV l < 10 ^ l.length
  | [], _ => by simp [decV]
  | c :: l, h => by
    rw [List.all_cons, Bool.and_eq_true] at h
    have h1 := (isDec_iff c).1 h.1
    have h2 := decV_lt l h.2
    have h3 : (c.toNat - 48) * 10 ^ l.length ≤ 9 * 10 ^ l.length := Nat.mul_le_mul_right _ (by omega)
    rw [decV_cons, List.length_cons, Nat.pow_succ]
    omega
theorem decV_low (c : UInt8) (l : List UInt8) (h1 : 48 < c.toNat) : 10 ^ l.length ≤ decV (c :: l) := by
  have h3 : 1 * 10 ^ l.length ≤ (c.toNat - 48) * 10 ^ l.length := Nat.mul_le_mul_right _ (by omega)
  rw [decV_cons]
  omega
/-- A number that has more than 19 digits, and no zero in front, is too great. -/
theorem decV_far (l : List UInt8) (hall : l.all isDec = true) (hh : l.headD 0 ≠ 48) (hn : 20 ≤ l.length) : 9223372036854775807 < decV l := by
  cases l with
  | nil => simp at hn
  | cons c l =>
    rw [List.all_cons, Bool.and_eq_true] at hall
    have h1 := (isDec_iff c).1 hall.1
    have h2 : c.toNat ≠ 48 := by
      intro e
      apply hh
      show c = 48
      apply UInt8.toNat_inj.1
      exact e
    have h3 := decV_low c l (by omega)
    have h4 : 10 ^ 19 ≤ 10 ^ l.length := Nat.pow_le_pow_right (by omega) (by simp at hn; omega)
    omega
theorem numE_ok (l : List UInt8) : numE l = 0 ↔ l ≠ [] ∧ l.all isDec = true ∧ (1 < l.length → l.headD 0 ≠ 48) ∧ decV l ≤ 9223372036854775807 := by
  unfold numE
  by_cases h1 : l = [] ∨ l.all isDec = false ∨ (l.headD 0 = 48 ∧ 1 < l.length)
  · rw [if_pos h1]
    constructor
    · intro h; exact absurd h (by omega)
    · rintro ⟨h2, h3, h4, _⟩
      rcases h1 with h | h | h
      · exact absurd h h2
      · rw [h3] at h; cases h
      · exact absurd h.1 (h4 h.2)
  · rw [if_neg h1]
    simp only [not_or, not_and] at h1
    by_cases h2 : decV l ≤ 9223372036854775807
    · rw [if_pos h2]
      exact ⟨fun _ => ⟨h1.1, by simpa using h1.2.1, fun h h3 => h1.2.2 h3 h, h2⟩, fun _ => rfl⟩
    · rw [if_neg h2]
      exact ⟨fun h => absurd h (by omega), fun h => absurd h.2.2.2 h2⟩

/-! ### What is written is read -/
theorem decL_small {m : Nat} (h : m < 10) : decL m = [UInt8.ofNat (48 + m)] := by rw [decL, if_pos h]
theorem decL_big {m : Nat} (h : ¬ m < 10) : decL m = decL (m / 10) ++ [UInt8.ofNat (48 + m % 10)] := by rw [decL, if_neg h]
theorem dig_nat {m : Nat} (h : m < 10) : (UInt8.ofNat (48 + m)).toNat = 48 + m := by rw [UInt8.toNat_ofNat', Nat.mod_eq_of_lt (by omega)]
theorem decL_ok (m : Nat) : decV (decL m) = m ∧ (decL m).all isDec = true ∧ decL m ≠ [] ∧ (0 < m → (decL m).headD 0 ≠ 48) ∧ (m = 0 → (decL m).length = 1) := by
  induction m using Nat.strongRecOn with
  | ind m ih =>
    by_cases h : m < 10
    · rw [decL_small h]
      refine ⟨by show 0 * 10 + ((UInt8.ofNat (48 + m)).toNat - 48) = m; rw [dig_nat h]; omega, ?_, by simp, ?_, fun _ => rfl⟩
      · simp only [List.all_cons, List.all_nil, Bool.and_true]
        rw [isDec_iff, dig_nat h]
        omega
      · intro hm e
        have := congrArg UInt8.toNat e
        simp only [List.headD_cons] at this
        rw [dig_nat h] at this
        have e48 : (48 : UInt8).toNat = 48 := rfl
        omega
    · have h10 : m % 10 < 10 := Nat.mod_lt _ (by omega)
      obtain ⟨i1, i2, i3, i4, _⟩ := ih (m / 10) (by omega)
      rw [decL_big h]
      refine ⟨by rw [decV_snoc, i1, dig_nat h10]; omega, ?_, by simp, ?_, fun hm => absurd hm (by omega)⟩
      · rw [List.all_append, i2]
        simp only [List.all_cons, List.all_nil, Bool.and_true, Bool.true_and]
        rw [isDec_iff, dig_nat h10]
        omega
      · intro _
        have := i4 (by omega)
        cases hd : decL (m / 10) with
        | nil => exact absurd hd i3
        | cons a t => rw [hd] at this; simpa using this
theorem num_prt (v : Int) (h0 : 0 ≤ v) (h1 : v ≤ 9223372036854775807) : numE (prtL v) = 0 ∧ (numV (prtL v) : Int) = v := by
  have e : prtL v = decL v.natAbs := by unfold prtL; rw [if_neg (by omega)]; rfl
  obtain ⟨d1, d2, d3, d4, d5⟩ := decL_ok v.natAbs
  have hE : numE (prtL v) = 0 := by
    rw [e, numE_ok]
    refine ⟨d3, d2, fun h => ?_, by omega⟩
    rcases Nat.eq_zero_or_pos v.natAbs with hz | hz
    · rw [d5 hz] at h; omega
    · exact d4 hz
  refine ⟨hE, ?_⟩
  unfold numV
  rw [if_pos hE, e, d1]
  omega
theorem num_prt_neg (v : Int) (h0 : v < 0) : numE (prtL v) = 4 := by
  unfold numE
  rw [if_pos]
  refine .inr (.inl ?_)
  unfold prtL
  rw [if_pos h0]
  rfl

theorem dg_hexC : ∀ x : Fin 16, dgE (hexC x.val) = (x.val : Int) := by decide +kernel
theorem dg_hexC' (x : Nat) (h : x < 16) : dgE (hexC x) = (x : Int) := dg_hexC ⟨x, h⟩
theorem hexL_cons (a : UInt8) (l : List UInt8) : hexL (a :: l) = hexC (a.toNat / 16) :: hexC (a.toNat % 16) :: hexL l := rfl
theorem hex_back : ∀ (l : List UInt8), unhL (hexL l) = l ∧ (hexL l).all isHex = true
  | [] => ⟨rfl, rfl⟩
  | a :: l => by
    obtain ⟨h1, h2⟩ := hex_back l
    have ha := a.toNat_lt
    have q1 := dg_hexC' (a.toNat / 16) (by omega)
    have q2 := dg_hexC' (a.toNat % 16) (by omega)
    rw [hexL_cons]
    constructor
    · rw [unhL, h1, q1, q2]
      congr 1
      apply UInt8.toNat_inj.1
      rw [UInt8.toNat_ofNat']
      omega
    · rw [List.all_cons, List.all_cons, h2]
      unfold isHex
      rw [q1, q2, decide_eq_true (by omega), decide_eq_true (by omega)]
      rfl
theorem unhE_hex (l : List UInt8) : unhE (hexL l) = 0 := by
  unfold unhE
  rw [if_pos ⟨(hex_back l).2, by rw [hexL_len]; omega⟩]
theorem unhR_hex (l : List UInt8) : unhR (hexL l) = l := by
  unfold unhR
  rw [if_pos (unhE_hex l), (hex_back l).1]

/-! ### The order of texts and of numbers -/
theorem less_dec : ∀ (a b : List UInt8), a.length = b.length → a.all isDec = true → b.all isDec = true → (Op.bytesLess a b = decide (decV a < decV b))
  | [], [], _, _, _ => by simp [Op.bytesLess, decV]
  | [], _ :: _, h, _, _ => by simp at h
  | _ :: _, [], h, _, _ => by simp at h
  | x :: a, y :: b, h, ha, hb => by
    rw [List.all_cons, Bool.and_eq_true] at ha hb
    have hl : a.length = b.length := by simpa using h
    have ih := less_dec a b hl ha.2 hb.2
    have h1 := (isDec_iff x).1 ha.1
    have h2 := (isDec_iff y).1 hb.1
    have h3 := decV_lt a ha.2
    have h4 := decV_lt b hb.2
    rw [Op.bytesLess, ih, decV_cons, decV_cons, ← hl]
    rw [← hl] at h4
    obtain ⟨p, hp⟩ : ∃ p, 10 ^ a.length = p := ⟨_, rfl⟩
    rw [hp] at h3 h4 ⊢
    rcases Nat.lt_trichotomy x.toNat y.toNat with hxy | hxy | hxy
    · have e1 : decide (x < y) = true := decide_eq_true (by rw [UInt8.lt_iff_toNat_lt]; exact hxy)
      rw [e1, Bool.true_or]
      symm
      rw [decide_eq_true_iff]
      have : (x.toNat - 48 + 1) * p ≤ (y.toNat - 48) * p := Nat.mul_le_mul_right _ (by omega)
      rw [Nat.add_mul] at this
      omega
    · have e0 : x = y := UInt8.toNat_inj.1 hxy
      subst e0
      have e1 : decide (x < x) = false := decide_eq_false (by rw [UInt8.lt_iff_toNat_lt]; omega)
      rw [e1, Bool.false_or, beq_self_eq_true, Bool.true_and, decide_eq_decide]
      omega
    · have e1 : decide (x < y) = false := decide_eq_false (by rw [UInt8.lt_iff_toNat_lt]; omega)
      have e2 : (x == y) = false := by
        rw [beq_eq_false_iff_ne]
        rintro rfl
        omega
      rw [e1, e2, Bool.false_or, Bool.false_and]
      symm
      rw [decide_eq_false_iff_not]
      have : (y.toNat - 48 + 1) * p ≤ (x.toNat - 48) * p := Nat.mul_le_mul_right _ (by omega)
      rw [Nat.add_mul] at this
      omega
theorem longer_dec (a b : List UInt8) (ha : numE a = 0) (hb : numE b = 0) (h : a.length < b.length) : decV a < decV b := by
  obtain ⟨a1, a2, _, _⟩ := (numE_ok a).1 ha
  obtain ⟨b1, b2, b3, _⟩ := (numE_ok b).1 hb
  have hal : 1 ≤ a.length := by
    cases a with
    | nil => exact absurd rfl a1
    | cons x a => simp
  have h1 := decV_lt a a2
  cases b with
  | nil => exact absurd rfl b1
  | cons y b =>
    rw [List.all_cons, Bool.and_eq_true] at b2
    have hy := (isDec_iff y).1 b2.1
    have hy2 : y.toNat ≠ 48 := by
      intro e
      refine b3 (by omega) ?_
      show y = 48
      exact UInt8.toNat_inj.1 e
    have h2 := decV_low y b (by omega)
    have h3 : 10 ^ a.length ≤ 10 ^ b.length := Nat.pow_le_pow_right (by omega) (by simp at h; omega)
    omega
/-- Of two numbers that are read the longer text, or of one length the later one, is the greater. -/
theorem order_dec (a b : List UInt8) (ha : numE a = 0) (hb : numE b = 0) : decide (decV a < decV b) = (decide (a.length < b.length) || (decide (a.length = b.length) && Op.bytesLess a b)) := by
  rcases Nat.lt_trichotomy a.length b.length with h | h | h
  · rw [decide_eq_true (longer_dec a b ha hb h), decide_eq_true h]
    rfl
  · have := less_dec a b h ((numE_ok a).1 ha).2.1 ((numE_ok b).1 hb).2.1
    rw [this, decide_eq_false (by omega : ¬ a.length < b.length), decide_eq_true h, Bool.false_or, Bool.true_and]
  · have := longer_dec b a hb ha h
    rw [decide_eq_false (by omega), decide_eq_false (by omega : ¬ a.length < b.length), decide_eq_false (by omega : ¬ a.length = b.length)]
    rfl
end Go.Proofs.YtbnlkagiliimkaaDoor
