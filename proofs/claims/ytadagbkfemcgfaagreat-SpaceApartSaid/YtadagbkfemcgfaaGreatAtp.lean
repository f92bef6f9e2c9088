/-
  Own work. The contract of octet's At.
-/
import Derived.Test.YtadagbkfemcgfaaGreatG1
namespace Go.Proofs.YtadagbkfemcgfaaGreat
open Go.RowKit
set_option linter.unusedVariables false

/-! ### At -/
theorem or_join (N b : Nat) (hN : N ≤ 72057594037927935) (hb : b < 256) : bits .or .u64 ((N : Int) * 256) (b : Int) = ((N * 256 + b : Nat) : Int) := by
  rw [bits_join .u64 64 (by decide) wraps_u64 8 _ _ (by omega) (by omega) (by omega) (by omega) (by omega) (by omega)]
  omega

theorem at_ok (A : Option Addr) (l : List UInt8) (n c p k : Nat) (w : World) (h : HasB w w.heap.size A n l) (hn : n ≤ 1073741824) (hc : n ≤ c) (hc2 : c ≤ maxLen) (hk1 : 1 ≤ k) (hk8 : k ≤ 8) (hfit : p + k ≤ n) :
    Calls Tryz.prog 30 #[.slice A n c, .int .i64 (p : Int), .int .i64 (k : Int)] w fun e w' => e = .returned (.tuple #[.int .u64 (num ((l.drop p).take k) : Nat), .int .i64 0]) ∧ w = w' := by
  obtain ⟨hl, hm⟩ := h
  obtain ⟨g, o, rfl, hg, hcell⟩ := hm (by omega)
  unfold maxLen at hc2
  have HL := Lib.hid hl
  have HC := Lib.hid hcell
  clear hl hm hcell
  go_enter Tryz.func30, Tryz.ntmps30
  go_wp2_with (first
    | (go_at_call 43; refine (mayWidth_yes _ _ (by omega) (by omega)).mono ?_; rintro e w' ⟨rfl, rfl⟩))
  go_loop [8, 31] (fun x i => ∃ j : Nat, j ≤ k ∧ i = .int .i64 (j : Int) ∧ x = .int .u64 ((num ((l.drop p).take j) : Nat) : Int)) (fun _ i => k - (intOf i).toNat)
  case atStart => exact ⟨0, by omega, rfl, rfl⟩
  case round =>
    obtain ⟨j, hj, rfl, rfl⟩ := hrel
    by_cases hlt : j < k
    · obtain ⟨b, hb⟩ := at_some l (p + j) (by have := HL.out; omega)
      have hbb : (l.drop p)[j]? = some b := by rw [List.getElem?_drop]; exact hb
      have hn1 := num_take_lt (l.drop p) j (by omega)
      have hn2 : num ((l.drop p).take (j + 1)) = num ((l.drop p).take j) * 256 + b.toNat := by rw [take_snoc' _ _ _ hbb, num_snoc]
      have HN := Lib.hid hn2
      have hbl := b.toNat_lt
      have hcc : w.cell? ⟨g, o + p + j, none⟩ = some (.int .u8 (b.toNat : Int)) := by rw [Nat.add_assoc]; exact HC.out (p + j) b hb
      clear hb hbb hn2
      generalize num ((l.drop p).take j) = N at *
      go_wp2_with fail
      go_round
      case rel => exact ⟨j + 1, by omega, by go_num, by rw [or_join N b.toNat (by omega) hbl, ← HN.out]⟩
      case measure => simp [intOf]; omega
    · go_wp2_with fail
      obtain rfl : j = k := by omega
      go_ret2
      exact ⟨rfl, rfl⟩
theorem at_any (A : Option Addr) (l : List UInt8) (n c : Nat) (p k : Int) (w : World) (h : HasB w w.heap.size A n l) (hn : n ≤ 1073741824) (hc : n ≤ c) (hc2 : c ≤ maxLen) (hp : -9223372036854775808 ≤ p ∧ p ≤ 9223372036854775807) (hk : -9223372036854775808 ≤ k ∧ k ≤ 9223372036854775807) :
    Calls Tryz.prog 30 #[.slice A n c, .int .i64 p, .int .i64 k] w fun e w' => e = .returned (.tuple #[.int .u64 (atV l p k : Nat), .int .i64 (atE l p k)]) ∧ w = w' := by
  have hl := h.len
  obtain ⟨hp1, hp2⟩ := hp
  obtain ⟨hk1, hk2⟩ := hk
  by_cases hw : 1 ≤ k ∧ k ≤ 8
  · by_cases hp0 : 0 ≤ p
    · by_cases hfit : p + k ≤ n
      · have e1 : atE l p k = 0 := by unfold atE; rw [if_pos ⟨hw.1, hw.2, hp0⟩, if_pos (by omega)]
        have e2 : atV l p k = num ((l.drop p.toNat).take k.toNat) := by unfold atV; rw [e1, if_pos rfl]
        rw [e1, e2]
        obtain ⟨P, rfl⟩ := Int.eq_ofNat_of_zero_le hp0
        obtain ⟨K, rfl⟩ := Int.eq_ofNat_of_zero_le (show 0 ≤ k by omega)
        exact at_ok A l n c P K w h hn hc hc2 (by omega) (by omega) (by omega)
      · have e1 : atE l p k = 3 := by unfold atE; rw [if_pos ⟨hw.1, hw.2, hp0⟩, if_neg (by omega)]
        have e2 : atV l p k = 0 := by unfold atV; rw [e1]; rfl
        rw [e1, e2]
        obtain ⟨hw1, hw2⟩ := hw
        clear hl e1 e2 h
        go_enter Tryz.func30, Tryz.ntmps30
        go_wp2_with (go_at_call 43; refine (mayWidth_yes _ _ hw1 hw2).mono ?_; rintro e w' ⟨rfl, rfl⟩)
        go_ret2
        exact ⟨rfl, rfl⟩
    · have e1 : atE l p k = 1 := by unfold atE; rw [if_neg (by omega)]
      have e2 : atV l p k = 0 := by unfold atV; rw [e1]; rfl
      rw [e1, e2]
      obtain ⟨hw1, hw2⟩ := hw
      clear hl e1 e2 h
      go_enter Tryz.func30, Tryz.ntmps30
      go_wp2_with (go_at_call 43; refine (mayWidth_yes _ _ hw1 hw2).mono ?_; rintro e w' ⟨rfl, rfl⟩)
      go_ret2
      exact ⟨rfl, rfl⟩
  · have e1 : atE l p k = 1 := by unfold atE; rw [if_neg (by omega)]
    have e2 : atV l p k = 0 := by unfold atV; rw [e1]; rfl
    rw [e1, e2]
    have HW := Lib.hid hw
    clear hl e1 e2 h hw
    go_enter Tryz.func30, Tryz.ntmps30
    go_wp2_with (go_at_call 43; refine (mayWidth_no _ _ ⟨hk1, hk2⟩ HW.out).mono ?_; rintro e w' ⟨rfl, rfl⟩)
    go_ret2
    exact ⟨rfl, rfl⟩
end Go.Proofs.YtadagbkfemcgfaaGreat
