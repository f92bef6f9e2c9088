/-
  Own work. Rows of texts held against each other: alike.
-/
import Derived.Test.YtadagbkfemcgfaaPr
namespace Go.Proofs.Ytadagbkfemcgfaa
open Go.RowKit Go.Maps
set_option linter.unusedVariables false
set_option linter.unusedSimpArgs false

/-- A row of texts. -/
def HasS (W : World) (A : Option Addr) (n : Nat) (xs : List (List UInt8)) : Prop :=
  n = xs.length ∧ (0 < n → ∃ g o, A = some ⟨g, o, none⟩ ∧ ∀ k x, xs[k]? = some x → W.cell? ⟨g, o + k, none⟩ = some (.string (strB x)))
theorem strB_toList (a : List UInt8) : (strB a).toList = a := by unfold strB; simp
theorem strB_inj {a b : List UInt8} (h : strB a = strB b) : a = b := by
  have := congrArg lst h
  rwa [lst_strB, lst_strB] at this
set_option maxRecDepth 100000 in
set_option maxHeartbeats 2000000 in
theorem alike_any {W : World} {A B : Option Addr} {n m c d : Nat} {xs ys : List (List UInt8)} (ha : HasS W A n xs) (hb : HasS W B m ys) (hn : n ≤ 100000) (hm : m ≤ 100000) :
    Calls Try.prog 30 #[.slice A n c, .slice B m d] W (RetQ W (.bool (decide (xs = ys)))) := by
  have hl1 := ha.1
  have hl2 := hb.1
  by_cases hnm : n = m
  · subst hnm
    have HA := Lib.hid ha
    have HB := Lib.hid hb
    have L1 := Lib.hid hl1
    have L2 := Lib.hid hl2
    obtain ⟨R, hR⟩ : ∃ R, decide (xs = ys) = R := ⟨_, rfl⟩
    have HR := Lib.hid hR
    rw [hR]
    have hd : ((n : Int) != (n : Int)) = false := bne_self_eq_false _
    clear ha hb hl1 hl2 hm hR
    go_enter Try.func30, Try.ntmps30
    go_wp2_with fail
    go_loopw [5] (fun i wr => ∃ k q : Nat, k ≤ n ∧ i = .int .i64 (k : Int) ∧ xs.take k = ys.take k ∧ wr = W.drewN q) (fun i _ => n - (Go.RowKit.intOf i).toNat)
    case atStart => exact ⟨0, 0, Nat.zero_le _, rfl, rfl, rfl⟩
    case round =>
      obtain ⟨k, q, hk, rfl, ht, hw⟩ := hrel
      obtain ⟨wz, rfl⟩ : ∃ W, W = wr := ⟨_, rfl⟩
      have HW := Lib.hid hw
      have HT := Lib.hid ht
      by_cases hlt : k < n
      · obtain ⟨x, hx⟩ : ∃ x, xs[k]? = some x := ⟨_, List.getElem?_eq_getElem (by rw [← L1.out]; exact hlt)⟩
        obtain ⟨y, hy⟩ : ∃ y, ys[k]? = some y := ⟨_, List.getElem?_eq_getElem (by rw [← L2.out]; exact hlt)⟩
        obtain ⟨g1, o1, rfl, h1⟩ := HA.out.2 (by omega)
        obtain ⟨g2, o2, rfl, h2⟩ := HB.out.2 (by omega)
        have c1 : wz.cell? ⟨g1, o1 + k, none⟩ = some (.string (strB x)) := by rw [HW.out]; exact h1 k x hx
        have c2 : wz.cell? ⟨g2, o2 + k, none⟩ = some (.string (strB y)) := by rw [HW.out]; exact h2 k y hy
        have HX := Lib.hid hx
        have HY := Lib.hid hy
        clear hx hy h1 h2 hw ht
        by_cases hxy : x = y
        · subst hxy
          have TK : Hid (xs.take (k + 1) = ys.take (k + 1)) := Lib.hid (by rw [List.take_add_one, List.take_add_one, HX.out, HY.out, HT.out])
          go_upto_region 6 with fail
          go_quiet (fail)
          go_wp2_with fail
          go_roundw
          case measure => simp [Go.RowKit.intOf]; omega
          case rel =>
            exact ⟨k + 1, q + nq, by omega, by go_num, TK.out, by rw [HW.out, World.drewN_drewN]⟩
        · have hs : ((strB x).toList == (strB y).toList) = false := by rw [strB_toList, strB_toList, beq_eq_false_iff_ne]; exact hxy
          have RV : Hid (R = false) := Lib.hid (by
            rw [← HR.out]
            refine decide_eq_false (fun h => hxy ?_)
            have := HX.out
            rw [h, HY.out] at this
            injection this with this
            exact this.symm)
          clear hxy
          go_upto_region 6 with fail
          go_quiet (fail)
          go_wp2_with fail
          go_ret
          rw [RV.out]
          exact ⟨rfl, q + nq, by rw [HW.out, World.drewN_drewN]⟩
      · obtain rfl : k = n := by omega
        have RV : Hid (R = true) := Lib.hid (by
          rw [← HR.out]
          refine decide_eq_true ?_
          have := HT.out
          rwa [List.take_of_length_le (by rw [← L1.out]; exact Nat.le_refl _), List.take_of_length_le (by rw [← L2.out]; exact Nat.le_refl _)] at this)
        clear hw ht
        go_wp2_with fail
        go_ret
        rw [RV.out]
        exact ⟨rfl, q, HW.out⟩
  · have hne : decide (xs = ys) = false := decide_eq_false (fun h => hnm (by rw [hl1, hl2, h]))
    have hd : ((n : Int) != (m : Int)) = true := by rw [bne_iff_ne]; omega
    rw [hne]
    clear ha hb hl1 hl2 hne hnm
    go_enter Try.func30, Try.ntmps30
    go_wp2_with fail
    go_ret
    exact ⟨rfl, 0, rfl⟩
end Go.Proofs.Ytadagbkfemcgfaa
