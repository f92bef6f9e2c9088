/-
  Own work. The contract of the document's answer's Print.
-/
import Derived.Test.YtbnlkagiliimkaaDoorNv
namespace Go.Proofs.YtbnlkagiliimkaaDoor
open Go.RowKit
set_option linter.unusedVariables false
set_option linter.unusedSimpArgs false

theorem decL_len (k m : Nat) (h : m < 10 ^ (k + 1)) : (decL m).length ≤ k + 1 := by
  induction k generalizing m with
  | zero => rw [decL_small (by simpa using h)]; simp
  | succ k ih =>
    by_cases h1 : m < 10
    · rw [decL_small h1]; simp
    · rw [decL_big h1, List.length_append]
      have := ih (m / 10) (by rw [Nat.div_lt_iff_lt_mul (by omega)]; rw [Nat.pow_succ] at h; exact h)
      simp
      omega
/-- What is still to be written ahead of the digits that are there. -/
def preL (x : Int) (i : Nat) : List UInt8 := if i ≠ 0 ∧ x = 0 then [] else decL x.natAbs
theorem preL_step (x : Int) (i : Nat) (h : i = 0 ∨ x ≠ 0) : preL x i = preL (x.tdiv 10) (i + 1) ++ [UInt8.ofNat (48 + x.natAbs % 10)] := by
  have e1 : preL x i = decL x.natAbs := by
    unfold preL
    rw [if_neg (by omega)]
  have e2 : (x.tdiv 10).natAbs = x.natAbs / 10 := Int.natAbs_tdiv x 10
  rw [e1]
  unfold preL
  by_cases hs : x.natAbs < 10
  · have e3 : x.tdiv 10 = 0 := by omega
    rw [if_pos ⟨by omega, e3⟩, decL_small hs, Nat.mod_eq_of_lt hs]
    rfl
  · have e3 : ¬ x.tdiv 10 = 0 := by omega
    rw [if_neg (by omega), e2, decL_big hs]
theorem dig_dec : ∀ x : Fin 10, hexC x.val = UInt8.ofNat (48 + x.val) := by decide +kernel

set_option maxRecDepth 100000 in
set_option maxHeartbeats 1000000 in
theorem rprint_any (v : Int) (w : World) (hv : -9223372036854775808 ≤ v ∧ v ≤ 9223372036854775807) :
    Calls Tryd.prog 22 #[.int .i64 v] w (RetStr w (prtL v)) := by
  have hlen := decL_len 19 v.natAbs (by omega)
  have HL := Lib.hid hlen
  have HV := Lib.hid hv
  clear hlen
  obtain ⟨hv1, hv2⟩ := hv
  go_enter Tryd.func22, Tryd.ntmps22
  go_wp2_with fail
  go_loopw [0, 3, 5] (fun a s i wr => ∃ (x : Int) (k : Nat) (t : List UInt8) (S : ByteArray), a = .int .i64 x ∧ s = .string S ∧ S = ⟨t.toArray⟩ ∧ i = .int .i64 (k : Int) ∧ k ≤ 20 ∧ t.length = k ∧ decL v.natAbs = preL x k ++ t ∧ x.natAbs ≤ v.natAbs ∧ -9223372036854775808 ≤ x ∧ x ≤ 9223372036854775807 ∧ wr = w) (fun a _ i _ => (intOf a).natAbs + (if intOf i = 0 then 1 else 0))
  case atStart => exact ⟨v, 0, [], _, rfl, rfl, rfl, rfl, by omega, rfl, by simp [preL], Nat.le_refl _, hv1, hv2, rfl⟩
  case round =>
    obtain ⟨x, k, t, S, rfl, rfl, hS, rfl, hk, ht, hpre, hxv, hx1, hx2, rfl⟩ := hrel
    by_cases hgo : k = 0 ∨ x ≠ 0
    · obtain ⟨d, hd⟩ : ∃ d, x.tmod 10 = d := ⟨_, rfl⟩
      obtain ⟨x2, hx⟩ : ∃ x2, x.tdiv 10 = x2 := ⟨_, rfl⟩
      obtain ⟨e, he⟩ : ∃ e, x.natAbs % 10 = e := ⟨_, rfl⟩
      have he10 : e < 10 := by omega
      have hxa : x2.natAbs = x.natAbs / 10 := by rw [← hx]; exact Int.natAbs_tdiv x 10
      have hde : d.natAbs = e := by rw [← hd, ← he]; exact Int.natAbs_tmod x 10
      have hst := preL_step x k hgo
      rw [hx, he] at hst
      rw [hst, List.append_assoc] at hpre
      have htl : t.length + 1 ≤ 20 := by
        have h1 := HL.out
        rw [hpre, List.length_append, List.length_append] at h1
        simp at h1
        omega
      obtain ⟨X1, hX1⟩ : ∃ X1 : ByteArray, (⟨digL.toArray⟩ : ByteArray).extract e (e + 1) = X1 := ⟨_, rfl⟩
      have E1 : Hid (X1 = ⟨[UInt8.ofNat (48 + e)].toArray⟩) := Lib.hid (by rw [← hX1, ← dig_dec ⟨e, he10⟩]; exact dig_ext ⟨e, by omega⟩)
      have s1 : X1.size = 1 := by rw [E1.out]; rfl
      have s3 : S.size ≤ 4294967296 := by
        rw [hS]
        show t.length ≤ _
        omega
      have hx3 : -9223372036854775808 ≤ x2 ∧ x2 ≤ 9223372036854775807 := by omega
      have hmea : x2.natAbs < x.natAbs + (if (k : Int) = 0 then 1 else 0) := by
        rcases hgo with rfl | hgo
        · simp; omega
        · omega
      have SS := Lib.hid hS
      have PP := Lib.hid hpre
      have HT := Lib.hid ht
      have HA := Lib.hid hxa
      have HXV := Lib.hid hxv
      have HTL := Lib.hid htl
      have HX3 := Lib.hid hx3
      obtain ⟨hx31, hx32⟩ := hx3
      have HME := Lib.hid hmea
      unfold digL at hX1
      clear hS hpre ht hst hxa hxv htl he hmea
      by_cases hneg : d < 0
      · have hd2 : -d = (e : Int) := by omega
        clear hde
        by_cases hk0 : k = 0
        · subst hk0
          clear hgo
          go_wp2_with fail
          go_roundw
          case rel => exact ⟨x2, 0 + 1, UInt8.ofNat (48 + e) :: t, X1 ++ S, rfl, rfl, str_app [_] t X1 S E1.out SS.out, by go_num, by have := HTL.out; have := HT.out; omega, by rw [List.length_cons, HT.out], PP.out, by have := HA.out; have := HXV.out; omega, hx31, hx32, trivial⟩
          case measure => (have h1 := HME.out; simp only [intOf]; (try simp at h1 ⊢); omega)
        · have hxn : x ≠ 0 := by omega
          have hk1 : ((k : Int) == 0) = false := by rw [beq_eq_false_iff_ne]; omega
          have hk2 : (x != 0) = true := by rw [bne_iff_ne]; exact hxn
          clear hgo
          go_wp2_with fail
          go_roundw
          case rel => exact ⟨x2, k + 1, UInt8.ofNat (48 + e) :: t, X1 ++ S, rfl, rfl, str_app [_] t X1 S E1.out SS.out, by go_num, by have := HTL.out; have := HT.out; omega, by rw [List.length_cons, HT.out], PP.out, by have := HA.out; have := HXV.out; omega, hx31, hx32, trivial⟩
          case measure => (have h1 := HA.out; show x2.natAbs + (if (k : Int) + 1 = 0 then 1 else 0) < x.natAbs + (if (k : Int) = 0 then 1 else 0); rw [if_neg (by omega), if_neg (by omega)]; omega)
      · have hd2 : d = (e : Int) := by omega
        subst hd2
        clear hde
        by_cases hk0 : k = 0
        · subst hk0
          clear hgo
          go_wp2_with fail
          go_roundw
          case rel => exact ⟨x2, 0 + 1, UInt8.ofNat (48 + e) :: t, X1 ++ S, rfl, rfl, str_app [_] t X1 S E1.out SS.out, by go_num, by have := HTL.out; have := HT.out; omega, by rw [List.length_cons, HT.out], PP.out, by have := HA.out; have := HXV.out; omega, hx31, hx32, trivial⟩
          case measure => (have h1 := HME.out; simp only [intOf]; (try simp at h1 ⊢); omega)
        · have hxn : x ≠ 0 := by omega
          have hk1 : ((k : Int) == 0) = false := by rw [beq_eq_false_iff_ne]; omega
          have hk2 : (x != 0) = true := by rw [bne_iff_ne]; exact hxn
          clear hgo
          go_wp2_with fail
          go_roundw
          case rel => exact ⟨x2, k + 1, UInt8.ofNat (48 + e) :: t, X1 ++ S, rfl, rfl, str_app [_] t X1 S E1.out SS.out, by go_num, by have := HTL.out; have := HT.out; omega, by rw [List.length_cons, HT.out], PP.out, by have := HA.out; have := HXV.out; omega, hx31, hx32, trivial⟩
          case measure => (have h1 := HA.out; show x2.natAbs + (if (k : Int) + 1 = 0 then 1 else 0) < x.natAbs + (if (k : Int) = 0 then 1 else 0); rw [if_neg (by omega), if_neg (by omega)]; omega)
    · have hk0 : k ≠ 0 := by omega
      have hx0 : x = 0 := by omega
      subst hx0
      have hp0 : preL 0 k = [] := by unfold preL; rw [if_pos ⟨hk0, rfl⟩]
      rw [hp0, List.nil_append] at hpre
      have s3 : S.size ≤ 4294967296 := by
        rw [hS]
        show t.length ≤ _
        omega
      have SS := Lib.hid hS
      have PP := Lib.hid hpre
      have hk1 : ¬ (k : Int) = 0 := by omega
      clear hS hpre hp0 hgo ht
      by_cases hneg : v < 0
      · go_wp2_with fail
        go_ret
        refine ⟨?_, Below.refl _ _⟩
        unfold prtL
        rw [if_pos hneg, PP.out]
        show Ending.returned (.string (_ ++ S)) = _
        rw [str_app [45] t _ S rfl SS.out]
      · go_wp2_with fail
        go_ret
        refine ⟨?_, Below.refl _ _⟩
        unfold prtL
        rw [if_neg (by omega), PP.out, List.nil_append, ← SS.out]
        rfl
end Go.Proofs.YtbnlkagiliimkaaDoor
