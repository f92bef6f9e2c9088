/-
  Own work. The contract of the document's answer's May.
-/
import Derived.Test.YtbnlkagiliimkaaDoorByt
namespace Go.Proofs.YtbnlkagiliimkaaDoor
open Go.RowKit
set_option linter.unusedVariables false
set_option linter.unusedSimpArgs false

def mayC (y : UInt8) : Bool := decide ((97 ≤ y.toNat ∧ y.toNat ≤ 122) ∨ (48 ≤ y.toNat ∧ y.toNat ≤ 57) ∨ y.toNat = 45)
/-- Which texts are names. -/
def mayB (l : List UInt8) : Bool := decide (1 ≤ l.length ∧ l.length ≤ 16) && (decide (97 ≤ (l.headD 0).toNat ∧ (l.headD 0).toNat ≤ 122) && l.all mayC)
theorem str_at (l : List UInt8) (j : Nat) (y : UInt8) (h : l[j]? = some y) (S : ByteArray) (hS : S = ⟨l.toArray⟩) (hj : j < S.size) : S[j]'hj = y := by
  subst hS
  obtain ⟨h1, h2⟩ := List.getElem?_eq_some_iff.1 h
  exact h2
theorem str_size (l : List UInt8) (S : ByteArray) (hS : S = ⟨l.toArray⟩) : S.size = l.length := by subst hS; rfl
theorem all_take {p : UInt8 → Bool} {l : List UInt8} {j : Nat} {y : UInt8} (h : l[j]? = some y) : (l.take (j + 1)).all p = ((l.take j).all p && p y) := by
  obtain ⟨hj, rfl⟩ := List.getElem?_eq_some_iff.1 h
  rw [List.take_succ_eq_append_getElem hj, List.all_append]
  simp
theorem all_false {p : UInt8 → Bool} {l : List UInt8} {j : Nat} {y : UInt8} (h : l[j]? = some y) (hp : p y = false) : l.all p = false := by
  rw [List.all_eq_false]
  exact ⟨y, List.mem_of_getElem? h, by rw [hp]; simp⟩

set_option maxRecDepth 100000 in
set_option maxHeartbeats 1000000 in
theorem rmay_any (l : List UInt8) (w : World) (hl : l.length ≤ 9223372036854775807) : Calls Tryd.prog 10 #[.string ⟨l.toArray⟩] w fun e w' => e = .returned (.bool (mayB l)) ∧ w = w' := by
  obtain ⟨S, hS⟩ : ∃ S : ByteArray, S = ⟨l.toArray⟩ := ⟨_, rfl⟩
  have hsz := str_size l S hS
  rw [← hS]
  have HS := Lib.hid hS
  obtain ⟨n, hn⟩ : ∃ n, l.length = n := ⟨_, rfl⟩
  rw [hn] at hsz hl
  have HN := Lib.hid hn
  clear hS hn
  by_cases h1 : 1 ≤ n
  · by_cases h2 : n ≤ 16
    · obtain ⟨y, hy⟩ : ∃ y, l[0]? = some y := ⟨_, List.getElem?_eq_getElem (by rw [HN.out]; exact h1)⟩
      have hs0 := fun hj => str_at l 0 y hy S HS.out hj
      have hyl := y.toNat_lt
      have hh : l.headD 0 = y := by
        cases l with
        | nil => simp at hy
        | cons a l => simpa using hy
      have HY := Lib.hid hy
      have HH := Lib.hid hh
      clear hy hh
      by_cases hg : 97 ≤ y.toNat ∧ y.toNat ≤ 122
      · have q0 : ¬ (y.toNat : Int) < 97 := by omega
        have q1 : ¬ (122 : Int) < (y.toNat : Int) := by omega
        go_enter Tryd.func10, Tryd.ntmps10
        go_wp2_with fail
        clear hs0
        go_loopw [3] (fun x wr => ∃ j : Nat, j ≤ n ∧ x = .int .i64 (j : Int) ∧ (l.take j).all mayC = true ∧ wr = w) (fun x _ => n - (intOf x).toNat)
        case atStart => exact ⟨0, by omega, rfl, by simp, rfl⟩
        case round =>
          obtain ⟨j, hj, rfl, hall, rfl⟩ := hrel
          have HG := Lib.hid hg
          clear hg q0 q1 hyl
          by_cases hlt : j < n
          · obtain ⟨y, hy⟩ : ∃ y, l[j]? = some y := ⟨_, List.getElem?_eq_getElem (by rw [HN.out]; exact hlt)⟩
            have hsj := fun hj => str_at l j y hy S HS.out hj
            have hyl := y.toNat_lt
            have HYJ := Lib.hid hy
            have HA := Lib.hid hall
            clear hy hall
            rcases (show (97 ≤ y.toNat ∧ y.toNat ≤ 122) ∨ (122 < y.toNat) ∨ (48 ≤ y.toNat ∧ y.toNat ≤ 57) ∨ (57 < y.toNat ∧ y.toNat < 97) ∨ (y.toNat = 45) ∨ (y.toNat < 48 ∧ ¬ y.toNat = 45) by omega) with hq | hq | hq | hq | hq | hq
            · have q0 : (97 : Int) ≤ (y.toNat : Int) := by omega
              have q1 : (y.toNat : Int) ≤ 122 := by omega
              have q2 : (48 : Int) ≤ (y.toNat : Int) := by omega
              have q3 : ¬ (y.toNat : Int) ≤ 57 := by omega
              have q4 : ((y.toNat : Int) == 45) = false := by first | (rw [beq_iff_eq]; omega) | (rw [beq_eq_false_iff_ne]; omega)
              have hc : mayC y = true := by unfold mayC; first | (rw [decide_eq_true_iff]; omega) | (rw [decide_eq_false_iff_not]; omega)
              have HC := Lib.hid hc
              clear hc hq hyl
              go_wp2_with fail
              go_roundw
              case rel => exact ⟨j + 1, by omega, by go_num, by rw [all_take HYJ.out, HA.out, HC.out]; rfl, trivial⟩
              case measure => simp [intOf]; omega
            · have q0 : (97 : Int) ≤ (y.toNat : Int) := by omega
              have q1 : ¬ (y.toNat : Int) ≤ 122 := by omega
              have q2 : (48 : Int) ≤ (y.toNat : Int) := by omega
              have q3 : ¬ (y.toNat : Int) ≤ 57 := by omega
              have q4 : ((y.toNat : Int) == 45) = false := by first | (rw [beq_iff_eq]; omega) | (rw [beq_eq_false_iff_ne]; omega)
              have hc : mayC y = false := by unfold mayC; first | (rw [decide_eq_true_iff]; omega) | (rw [decide_eq_false_iff_not]; omega)
              have HC := Lib.hid hc
              clear hc hq hyl
              go_wp2_with fail
              go_ret
              refine ⟨?_, rfl⟩
              have e : mayB l = false := by
                unfold mayB
                rw [all_false HYJ.out HC.out]
                simp
              rw [e]
              rfl
            · have q0 : ¬ (97 : Int) ≤ (y.toNat : Int) := by omega
              have q1 : (y.toNat : Int) ≤ 122 := by omega
              have q2 : (48 : Int) ≤ (y.toNat : Int) := by omega
              have q3 : (y.toNat : Int) ≤ 57 := by omega
              have q4 : ((y.toNat : Int) == 45) = false := by first | (rw [beq_iff_eq]; omega) | (rw [beq_eq_false_iff_ne]; omega)
              have hc : mayC y = true := by unfold mayC; first | (rw [decide_eq_true_iff]; omega) | (rw [decide_eq_false_iff_not]; omega)
              have HC := Lib.hid hc
              clear hc hq hyl
              go_wp2_with fail
              go_roundw
              case rel => exact ⟨j + 1, by omega, by go_num, by rw [all_take HYJ.out, HA.out, HC.out]; rfl, trivial⟩
              case measure => simp [intOf]; omega
            · have q0 : ¬ (97 : Int) ≤ (y.toNat : Int) := by omega
              have q1 : (y.toNat : Int) ≤ 122 := by omega
              have q2 : (48 : Int) ≤ (y.toNat : Int) := by omega
              have q3 : ¬ (y.toNat : Int) ≤ 57 := by omega
              have q4 : ((y.toNat : Int) == 45) = false := by first | (rw [beq_iff_eq]; omega) | (rw [beq_eq_false_iff_ne]; omega)
              have hc : mayC y = false := by unfold mayC; first | (rw [decide_eq_true_iff]; omega) | (rw [decide_eq_false_iff_not]; omega)
              have HC := Lib.hid hc
              clear hc hq hyl
              go_wp2_with fail
              go_ret
              refine ⟨?_, rfl⟩
              have e : mayB l = false := by
                unfold mayB
                rw [all_false HYJ.out HC.out]
                simp
              rw [e]
              rfl
            · have q0 : ¬ (97 : Int) ≤ (y.toNat : Int) := by omega
              have q1 : (y.toNat : Int) ≤ 122 := by omega
              have q2 : ¬ (48 : Int) ≤ (y.toNat : Int) := by omega
              have q3 : (y.toNat : Int) ≤ 57 := by omega
              have q4 : ((y.toNat : Int) == 45) = true := by first | (rw [beq_iff_eq]; omega) | (rw [beq_eq_false_iff_ne]; omega)
              have hc : mayC y = true := by unfold mayC; first | (rw [decide_eq_true_iff]; omega) | (rw [decide_eq_false_iff_not]; omega)
              have HC := Lib.hid hc
              clear hc hq hyl
              go_wp2_with fail
              go_roundw
              case rel => exact ⟨j + 1, by omega, by go_num, by rw [all_take HYJ.out, HA.out, HC.out]; rfl, trivial⟩
              case measure => simp [intOf]; omega
            · have q0 : ¬ (97 : Int) ≤ (y.toNat : Int) := by omega
              have q1 : (y.toNat : Int) ≤ 122 := by omega
              have q2 : ¬ (48 : Int) ≤ (y.toNat : Int) := by omega
              have q3 : (y.toNat : Int) ≤ 57 := by omega
              have q4 : ((y.toNat : Int) == 45) = false := by first | (rw [beq_iff_eq]; omega) | (rw [beq_eq_false_iff_ne]; omega)
              have hc : mayC y = false := by unfold mayC; first | (rw [decide_eq_true_iff]; omega) | (rw [decide_eq_false_iff_not]; omega)
              have HC := Lib.hid hc
              clear hc hq hyl
              go_wp2_with fail
              go_ret
              refine ⟨?_, rfl⟩
              have e : mayB l = false := by
                unfold mayB
                rw [all_false HYJ.out HC.out]
                simp
              rw [e]
              rfl
          · obtain rfl : j = n := by omega
            rw [List.take_of_length_le (by rw [HN.out]; exact Nat.le_refl _)] at hall
            have HA := Lib.hid hall
            clear hall
            go_wp2_with fail
            go_ret
            refine ⟨?_, rfl⟩
            have e : mayB l = true := by
              unfold mayB
              rw [HA.out, HH.out, HN.out, decide_eq_true ⟨h1, h2⟩, decide_eq_true HG.out]
              rfl
            rw [e]
            rfl
      · have e : mayB l = false := by
          unfold mayB
          rw [HH.out, decide_eq_false hg]
          simp
        rw [e]
        have HG := Lib.hid hg
        clear hg
        by_cases q0 : (y.toNat : Int) < 97
        · go_enter Tryd.func10, Tryd.ntmps10
          go_wp2_with fail
          go_ret
          exact ⟨rfl, rfl⟩
        · have q1 : (122 : Int) < (y.toNat : Int) := by have := HG.out; omega
          go_enter Tryd.func10, Tryd.ntmps10
          go_wp2_with fail
          go_ret
          exact ⟨rfl, rfl⟩
    · have e : mayB l = false := by
        unfold mayB
        rw [HN.out, decide_eq_false (by omega)]
        rfl
      rw [e]
      go_enter Tryd.func10, Tryd.ntmps10
      go_wp2_with fail
      go_ret
      exact ⟨rfl, rfl⟩
  · have e : mayB l = false := by
      unfold mayB
      rw [HN.out, decide_eq_false (by omega)]
      rfl
    rw [e]
    obtain rfl : n = 0 := by omega
    go_enter Tryd.func10, Tryd.ntmps10
    go_wp2_with fail
    go_ret
    exact ⟨rfl, rfl⟩
end Go.Proofs.YtbnlkagiliimkaaDoor
