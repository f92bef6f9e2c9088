/-
  Own work. Contracts of the document's answer to Bit and SetBit.
-/
import Derived.Test.YtpbffcmmhffdcaaBit
namespace Go.Proofs.Ytpbffcmmhffdcaa
open Go.RowKit
set_option linter.unusedVariables false

theorem OwnB.empty (w : World) : OwnB (w.alloc (.cells #[] 5)) w.heap.size (.slice (some ⟨w.heap.size, 0, none⟩) 0 0) [] :=
  ⟨by simp [cellsB], .inr ⟨w.heap.size, 0, #[], rfl, Nat.le_refl _, heap_alloc_new w _, Nat.le_refl _, by simp, by simp, by simp [cellsB]⟩⟩

theorem q_test (q : Nat) : ((q : Int) % 2 == 1) = decide (q % 2 = 1) := by
  rw [Bool.eq_iff_iff]
  simp only [beq_iff_eq, decide_eq_true_eq]
  omega

theorem rbit_any (A : Option Addr) (l : List UInt8) (n c : Nat) (i : Int) (w : World) (h : HasB w w.heap.size A n l) (hn : n ≤ 1073741824) (hi : -9223372036854775808 ≤ i ∧ i ≤ 9223372036854775807) :
    Calls Try.prog 34 #[.slice A n c, .int .i64 i] w fun e w' => e = .returned (.tuple #[.bool (bitV l i), .int .i64 (bitE l i)]) ∧ w = w' := by
  obtain ⟨hl, hm⟩ := h
  obtain ⟨i1, i2⟩ := hi
  by_cases hb : 0 ≤ i ∧ i / 8 < l.length
  · have e1 : bitE l i = 0 := by unfold bitE; rw [if_pos hb]
    have e2 : bitV l i = bitOf (l.getD (i / 8).toNat 0) (i % 8).toNat := by unfold bitV; rw [e1, if_pos rfl]
    rw [e1, e2]
    obtain ⟨I, rfl⟩ := Int.eq_ofNat_of_zero_le hb.1
    obtain ⟨g, o, rfl, hg, hcell⟩ := hm (by omega)
    obtain ⟨z, hz⟩ : ∃ z, l[I / 8]? = some z := ⟨l[I / 8]'(by omega), List.getElem?_eq_getElem (by omega)⟩
    have hcc := hcell (I / 8) z hz
    have e3 : l.getD ((I : Int) / 8).toNat 0 = z := by
      rw [show ((I : Int) / 8).toNat = I / 8 by omega, List.getD, hz]; rfl
    have e4 : ((I : Int) % 8).toNat = I % 8 := by omega
    rw [e3, e4]
    have hz8 := z.toNat_lt
    have hlt : I / 8 < n := by omega
    have hlt' : ((I : Int) / 8) < (n : Int) := by omega
    clear e1 e2 e3 e4 hb hz hcell hm hl i1
    go_enter Try.func34, Try.ntmps34
    go_wp2_with fail
    go_loop [6, 7] (fun x k => ∃ j : Nat, j ≤ I % 8 ∧ k = .int .i64 (j : Int) ∧ x = .int .i64 ((z.toNat / 2 ^ j : Nat) : Int)) (fun _ k => I % 8 - (intOf k).toNat)
    case atStart => exact ⟨0, by omega, rfl, by simp⟩
    case round =>
      obtain ⟨j, hj, rfl, rfl⟩ := hrel
      have hle : z.toNat / 2 ^ j ≤ z.toNat := Nat.div_le_self _ _
      have hst : z.toNat / 2 ^ (j + 1) = z.toNat / 2 ^ j / 2 := by rw [Nat.pow_succ, Nat.div_div_eq_div_mul]
      have HST := Lib.hid hst
      have hbo : bitOf z j = decide (z.toNat / 2 ^ j % 2 = 1) := rfl
      have HBO := Lib.hid hbo
      clear hst hbo
      generalize z.toNat / 2 ^ j = q at *
      by_cases hlt : j < I % 8
      · go_wp2_with fail
        go_round
        case rel => exact ⟨j + 1, by omega, by go_num, by rw [HST.out]; go_num⟩
        case measure => simp [intOf]; omega
      · obtain rfl : j = I % 8 := by omega
        go_wp2_with fail
        go_ret2
        exact ⟨congrArg (fun b => Ending.returned (.tuple #[.bool b, .int .i64 0])) (by rw [HBO.out]; exact q_test q), rfl⟩
  · have e1 : bitE l i = 1 := by unfold bitE; rw [if_neg hb]
    have e2 : bitV l i = false := by unfold bitV; rw [e1]; rfl
    rw [e1, e2]
    clear e1 e2 hm
    by_cases hneg : i < 0
    · clear hb hl
      go_enter Try.func34, Try.ntmps34
      go_wp2_with fail
      go_ret2
      exact ⟨rfl, rfl⟩
    · have h1 : 0 ≤ i := by omega
      have h2 : (n : Int) ≤ i / 8 := by omega
      clear hb hl
      go_enter Try.func34, Try.ntmps34
      go_wp2_with fail
      go_ret2
      exact ⟨rfl, rfl⟩
theorem set_same {l : List UInt8} {k : Nat} {z : UInt8} (h : l[k]? = some z) : l.set k z = l := by
  apply List.ext_getElem?
  intro i
  by_cases hi : k = i
  · subst hi
    rw [List.getElem?_set_self (List.getElem?_eq_some_iff.1 h).1, h]
  · rw [List.getElem?_set_ne hi]
theorem bit_ge (z : UInt8) (j : Nat) (h : bitOf z j = true) : 2 ^ j ≤ z.toNat := by
  unfold bitOf at h
  rw [decide_eq_true_eq] at h
  have hp : 0 < 2 ^ j := Nat.two_pow_pos _
  have h1 : 1 ≤ z.toNat / 2 ^ j := by
    generalize z.toNat / 2 ^ j = q at h
    omega
  have := (Nat.le_div_iff_mul_le hp).1 h1
  omega

theorem rsetbit_any (A : Option Addr) (l : List UInt8) (n c : Nat) (i : Int) (on : Bool) (w : World) (h : HasB w w.heap.size A n l) (hn : n ≤ 1073741824) (hi : -9223372036854775808 ≤ i ∧ i ≤ 9223372036854775807) :
    Calls Try.prog 36 #[.slice A n c, .int .i64 i, .bool on] w (RetBE w (setL l i on) (bitE l i)) := by
  have hl := h.len
  have hbit := rbit_any A l n c i w h hn hi
  by_cases hb : 0 ≤ i ∧ i / 8 < l.length
  · have e1 : bitE l i = 0 := by unfold bitE; rw [if_pos hb]
    have e2 : setL l i on = l.set (i / 8).toNat (bitSet (l.getD (i / 8).toNat 0) (i % 8).toNat on) := by unfold setL; rw [e1, if_pos rfl]
    have e6 : bitV l i = bitOf (l.getD (i / 8).toNat 0) (i % 8).toNat := by unfold bitV; rw [e1, if_pos rfl]
    rw [e1, e6] at hbit
    rw [e1, e2]
    obtain ⟨I, rfl⟩ := Int.eq_ofNat_of_zero_le hb.1
    obtain ⟨z, hz⟩ : ∃ z, l[I / 8]? = some z := ⟨l[I / 8]'(by omega), List.getElem?_eq_getElem (by omega)⟩
    have e3 : l.getD ((I : Int) / 8).toNat 0 = z := by
      rw [show ((I : Int) / 8).toNat = I / 8 by omega, List.getD, hz]; rfl
    have e4 : ((I : Int) % 8).toNat = I % 8 := by omega
    have e5 : ((I : Int) / 8).toNat = I / 8 := by omega
    rw [e3, e4] at hbit
    rw [e3, e4, e5]
    have hz8 := z.toNat_lt
    have hI := hi.2
    have hlt : I / 8 < n := by omega
    have hj7 : I % 8 ≤ 7 := by omega
    have hge := bit_ge z (I % 8)
    have hst : ∀ b, bitOf z (I % 8) = b → bitSet z (I % 8) on = if on then (if b then z else UInt8.ofNat (z.toNat + 2 ^ (I % 8))) else (if b then UInt8.ofNat (z.toNat - 2 ^ (I % 8)) else z) := by
      intro b hbb; subst hbb; rfl
    have hst' := hst _ rfl
    rw [hst']
    generalize hv : bitOf z (I % 8) = v at *
    have HZ := Lib.hid hz
    have HL := Lib.hid hl
    have HB := Lib.hid hbit
    have HGE := Lib.hid hge
    clear e1 e2 e3 e4 e5 e6 hb hz hl hi hv hst hst' hbit hge
    cases on <;> cases v
    all_goals
      go_enter Try.func36, Try.ntmps36
      go_wp2_with (first
        | (go_at_call 34; refine HB.out.mono ?_; rintro e w' ⟨rfl, rfl⟩)
        | (at_builtin; refine wp_app rfl _ _ rfl Try.underlying22 infoU8 w.heap.size _ [] l rfl (OwnB.empty w) w.heap.size A n c rfl (h.alloc (Nat.le_refl _) _) (by rw [← HL.out]; simp; omega) (by simp) ?_; intro A2 n2 c2 w2 hown2 hg2 hb2))
      rw [List.nil_append] at hown2
      have hn2 : n2 = n := by have := hown2.len; have := HL.out; omega
      subst hn2
      obtain ⟨g, rfl, hbg, hlt2, hcell⟩ := hown2.head (by omega)
      have hcc := hcell (I / 8) z HZ.out
      have hfz := hown2.frozen (I / 8)
      have hbb : Below w.heap.size w w2 := ((Below.refl _ _).alloc (Nat.le_refl _) _).trans hb2
      clear hcell hb2 hg2
      go_loop [11, 12] (fun x k => ∃ j : Nat, j ≤ I % 8 ∧ k = .int .i64 (j : Int) ∧ x = .int .i64 ((2 ^ j : Nat) : Int)) (fun _ k => I % 8 - (intOf k).toNat)
      case atStart => exact ⟨0, by omega, rfl, rfl⟩
      case round =>
        obtain ⟨j, hj, rfl, rfl⟩ := hrel
        have hle : 2 ^ j ≤ 128 := Nat.pow_le_pow_right (i := j) (j := 7) (by omega) (by omega)
        have hp2 : 2 ^ (j + 1) = 2 ^ j * 2 := Nat.pow_succ _ _
        have HP := Lib.hid hp2
        clear hp2
        by_cases hltj : j < I % 8
        · generalize 2 ^ j = q at *
          go_wp2_with fail
          go_round
          case rel => exact ⟨j + 1, by omega, by go_num, by rw [HP.out]; go_num⟩
          case measure => simp [intOf]; omega
        · obtain rfl : j = I % 8 := by omega
          clear HP
          have hsame := set_same HZ.out
          have HSA := Lib.hid hsame
          clear hsame
          generalize 2 ^ (I % 8) = q at *
          go_wp2_with fail
          go_ret2
          first
            | exact ⟨_, _, _, rfl, by rw [HSA.out]; exact hown2, hbb⟩
            | exact ⟨_, _, _, rfl, hown2.set_ (by rw [UInt8.toNat_add, UInt8.toNat_ofNat']; omega), hbb.setCell (p := ⟨g, I / 8, none⟩) hbg _⟩
            | exact ⟨_, _, _, rfl, hown2.set_ (by have := HGE.out (by trivial); rw [u8_of]; omega), hbb.setCell (p := ⟨g, I / 8, none⟩) hbg _⟩
  · have e1 : bitE l i = 1 := by unfold bitE; rw [if_neg hb]
    have e2 : setL l i on = [] := by unfold setL; rw [e1]; rfl
    rw [e1] at hbit
    rw [e1, e2]
    have HB := Lib.hid hbit
    clear e1 e2 hbit hb hl hi
    go_enter Try.func36, Try.ntmps36
    go_wp2_with (go_at_call 34; refine HB.out.mono ?_; rintro e w' ⟨rfl, rfl⟩)
    go_ret2
    exact ⟨none, 0, 0, rfl, OwnB.nil _ _, Below.refl _ _⟩
end Go.Proofs.Ytpbffcmmhffdcaa
