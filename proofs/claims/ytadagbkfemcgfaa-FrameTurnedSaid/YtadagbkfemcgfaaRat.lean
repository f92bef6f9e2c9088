/-
  Own work. The contract of the document's answer to At.
-/
import Derived.Test.YtadagbkfemcgfaaG1
namespace Go.Proofs.Ytadagbkfemcgfaa
open Go.RowKit
set_option linter.unusedVariables false
set_option linter.unusedSimpArgs false

set_option maxRecDepth 100000 in
theorem rat_any (A : Option Addr) (l : List UInt8) (n c : Nat) (p k : Int) (w : World) (h : HasB w w.heap.size A n l) (hn : n ≤ 1073741824) (hp : -9223372036854775808 ≤ p ∧ p ≤ 9223372036854775807) (hk : -9223372036854775808 ≤ k ∧ k ≤ 9223372036854775807) :
    Calls Try.prog 38 #[.slice A n c, .int .i64 p, .int .i64 k] w fun e w' => e = .returned (.tuple #[.int .u64 (atV l p k : Nat), .int .i64 (atE l p k)]) ∧ w = w' := by
  have hl := h.len
  obtain ⟨hp1, hp2⟩ := hp
  obtain ⟨hk1, hk2⟩ := hk
  by_cases hw1 : 1 ≤ k
  · by_cases hw2 : k ≤ 8
    · by_cases hp0 : 0 ≤ p
      · by_cases hfit : p + k ≤ n
        · have e1 : atE l p k = 0 := by unfold atE; rw [if_pos ⟨hw1, hw2, hp0⟩, if_pos (by omega)]
          have e2 : atV l p k = num ((l.drop p.toNat).take k.toNat) := by unfold atV; rw [e1, if_pos rfl]
          rw [e1, e2]
          obtain ⟨P, rfl⟩ := Int.eq_ofNat_of_zero_le hp0
          obtain ⟨K, rfl⟩ := Int.eq_ofNat_of_zero_le (show 0 ≤ k by omega)
          rw [Int.toNat_natCast, Int.toNat_natCast]
          obtain ⟨g, o, rfl, hg, hcell⟩ := h.2 (by omega)
          have HL := Lib.hid hl
          have HC := Lib.hid hcell
          clear hl hcell e1 e2 h
          go_enter Try.func38, Try.ntmps38
          go_wp2_with fail
          go_loop [8, 9] (fun x i => ∃ j : Nat, j ≤ K ∧ i = .int .i64 (j : Int) ∧ x = .int .u64 ((num ((l.drop P).take j) : Nat) : Int)) (fun _ i => K - (intOf i).toNat)
          case atStart => exact ⟨0, by omega, rfl, rfl⟩
          case round =>
            obtain ⟨j, hj, rfl, rfl⟩ := hrel
            by_cases hlt : j < K
            · obtain ⟨b, hb⟩ := at_some l (P + j) (by have := HL.out; omega)
              have hbb : (l.drop P)[j]? = some b := by rw [List.getElem?_drop]; exact hb
              have hn1 := num_take_lt (l.drop P) j (by omega)
              have hn2 : num ((l.drop P).take (j + 1)) = num ((l.drop P).take j) * 256 + b.toNat := by rw [take_snoc' _ _ _ hbb, num_snoc]
              have HN := Lib.hid hn2
              have hbl := b.toNat_lt
              have hcc : w.cell? ⟨g, o + (P + j), none⟩ = some (.int .u8 (b.toNat : Int)) := HC.out (P + j) b hb
              clear hb hbb hn2
              generalize num ((l.drop P).take j) = N at *
              go_wp2_with fail
              go_round
              case rel => exact ⟨j + 1, by omega, by go_num, by rw [HN.out]; go_num⟩
              case measure => simp [intOf]; omega
            · go_wp2_with fail
              obtain rfl : j = K := by omega
              go_ret2
              exact ⟨rfl, rfl⟩
        · have e1 : atE l p k = 3 := by unfold atE; rw [if_pos ⟨hw1, hw2, hp0⟩, if_neg (by omega)]
          have e2 : atV l p k = 0 := by unfold atV; rw [e1]; rfl
          rw [e1, e2]
          clear hl e1 e2 h
          by_cases hpn : p ≤ n
          all_goals
            go_enter Try.func38, Try.ntmps38
            go_wp2_with fail
            go_ret2
            exact ⟨rfl, rfl⟩
      · have e1 : atE l p k = 1 := by unfold atE; rw [if_neg (by omega)]
        have e2 : atV l p k = 0 := by unfold atV; rw [e1]; rfl
        rw [e1, e2]
        clear hl e1 e2 h
        go_enter Try.func38, Try.ntmps38
        go_wp2_with fail
        go_ret2
        exact ⟨rfl, rfl⟩
    · have e1 : atE l p k = 1 := by unfold atE; rw [if_neg (by omega)]
      have e2 : atV l p k = 0 := by unfold atV; rw [e1]; rfl
      rw [e1, e2]
      clear hl e1 e2 h
      go_enter Try.func38, Try.ntmps38
      go_wp2_with fail
      go_ret2
      exact ⟨rfl, rfl⟩
  · have e1 : atE l p k = 1 := by unfold atE; rw [if_neg (by omega)]
    have e2 : atV l p k = 0 := by unfold atV; rw [e1]; rfl
    rw [e1, e2]
    clear hl e1 e2 h
    go_enter Try.func38, Try.ntmps38
    go_wp2_with fail
    go_ret2
    exact ⟨rfl, rfl⟩
end Go.Proofs.Ytadagbkfemcgfaa
