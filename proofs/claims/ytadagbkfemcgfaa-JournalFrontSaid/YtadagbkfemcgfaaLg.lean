/-
  Own work. light: is a law's list small enough?
-/
import Derived.Test.YtadagbkfemcgfaaPa
namespace Go.Proofs.Ytadagbkfemcgfaa
open Go.RowKit Go.Maps
set_option linter.unusedVariables false
set_option linter.unusedSimpArgs false

def lgArg (A : Option Addr) (n c : Nat) : Value := .agg #[.int .i64 0, .int .i64 0, .int .i64 0, .slice A n c, .slice none 0 0, .slice none 0 0]
theorem ltB_no {l : List PsR} {k : Nat} {x : PsR} (h : l[k]? = some x) (hx : ¬ x.d.length ≤ 600) : ltB l = false := by
  unfold ltB
  rw [Bool.and_eq_false_iff]
  refine .inr (Bool.eq_false_iff.2 (fun h2 => hx ?_))
  have := List.all_eq_true.1 h2 x (List.mem_of_getElem? h)
  simpa using this
theorem ltB_yes {l : List PsR} (h : l.length ≤ 60) (hx : ∀ x ∈ l, x.d.length ≤ 600) : ltB l = true := by
  unfold ltB
  rw [Bool.and_eq_true]
  exact ⟨by simpa using h, List.all_eq_true.2 (fun x hx' => by simpa using hx x hx')⟩
theorem ltB_inv {l : List PsR} (h : ltB l = true) : l.length ≤ 60 ∧ ∀ x ∈ l, x.d.length ≤ 600 := by
  unfold ltB at h
  rw [Bool.and_eq_true] at h
  exact ⟨by simpa using h.1, fun x hx => by simpa using List.all_eq_true.1 h.2 x hx⟩
theorem ltB_long {l : List PsR} (h : ¬ l.length ≤ 60) : ltB l = false := by
  unfold ltB
  rw [Bool.and_eq_false_iff]
  exact .inl (by simpa using h)
set_option maxRecDepth 100000 in
set_option maxHeartbeats 2000000 in
theorem light_any {W : World} {A : Option Addr} {n c : Nat} {l : List PsR} (h : HasPs W A n l) :
    Calls Try.prog 26 #[lgArg A n c] W fun en W' => en = .returned (.bool (ltB l)) ∧ Below W.heap.size W W' := by
  have HH := Lib.hid h
  have L1 := Lib.hid h.1
  clear h
  by_cases h60 : n ≤ 60
  · have h60' : ¬ (60 : Int) < (n : Int) := by omega
    unfold lgArg
    go_enter Try.func26, Try.ntmps26
    go_wp2_with fail
    obtain ⟨W1, hW1⟩ : ∃ W1, W1 = W.alloc (.cells #[.int .i64 0, .int .i64 0, .int .i64 0, .slice A n c, .slice none 0 0, .slice none 0 0] 55) := ⟨_, rfl⟩
    have B0 : Hid (Below W.heap.size W W1) := Lib.hid (by rw [hW1]; exact (Below.refl _ _).alloc (Nat.le_refl _) _)
    have K3 : W1.cell? ⟨W.heap.size, 3, none⟩ = some (.slice A n c) := by
      rw [hW1, cell_of_row _ _ _ _ _ _ (heap_alloc_new W _)]
      rfl
    rw [← hW1]
    have HP := Lib.hid (HH.out.below B0.out)
    clear hW1 HH
    go_loopw [3] (fun i wr => ∃ k : Nat, k ≤ n ∧ i = .int .i64 (k : Int) ∧ (∀ q x, q < k → l[q]? = some x → x.d.length ≤ 600) ∧ wr = W1) (fun i _ => n - (Go.RowKit.intOf i).toNat)
    case atStart => exact ⟨0, Nat.zero_le _, rfl, fun q x hq => absurd hq (by omega), rfl⟩
    case round =>
      obtain ⟨k, hk, rfl, hs, rfl⟩ := hrel
      have HS := Lib.hid hs
      clear hs
      by_cases hlt : k < n
      · obtain ⟨x, hx⟩ : ∃ x, l[k]? = some x := ⟨_, List.getElem?_eq_getElem (by rw [← L1.out]; exact hlt)⟩
        obtain ⟨g0, o0, rfl, hg0, hcl⟩ := HP.out.2.2 (by omega)
        obtain ⟨k1', k2', k3', hB, hqc⟩ := hcl k x hx
        have hlen := hB.1
        have HX := Lib.hid hx
        obtain ⟨xA, hxA⟩ : ∃ xA, x.A = xA := ⟨_, rfl⟩
        obtain ⟨xq, hxq'⟩ : ∃ xq, x.q = xq := ⟨_, rfl⟩
        obtain ⟨xc, hxc⟩ : ∃ xc, x.c = xc := ⟨_, rfl⟩
        rw [hxA, hxq', hxc] at k2'
        rw [hxq'] at hlen
        clear hcl hB hqc k1' k3' hx hxA hxq' hxc
        by_cases h6 : xq ≤ 600
        · have h6' : ¬ (600 : Int) < (xq : Int) := by omega
          have HS2 : Hid (∀ q x, q < k + 1 → l[q]? = some x → x.d.length ≤ 600) := Lib.hid (fun q y hq hy => by
            by_cases e : q = k
            · subst e
              rw [HX.out] at hy
              injection hy with hy
              subst hy
              omega
            · exact HS.out q y (by omega) hy)
          clear hlen
          go_wp2_with fail
          go_roundw
          case rel => exact ⟨k + 1, by omega, by go_num, HS2.out, trivial⟩
          case measure => simp [Go.RowKit.intOf]; omega
        · have h6' : (600 : Int) < (xq : Int) := by omega
          have LB : Hid (ltB l = false) := Lib.hid (ltB_no HX.out (by omega))
          clear hlen
          go_wp2_with fail
          go_ret
          rw [LB.out]
          exact ⟨rfl, B0.out⟩
      · obtain rfl : k = n := by omega
        have LB : Hid (ltB l = true) := Lib.hid (ltB_yes (by rw [← L1.out]; omega) (fun x hx => by
          obtain ⟨q, hq, e⟩ := List.mem_iff_getElem.1 hx
          exact HS.out q x (by rw [L1.out]; exact hq) (by rw [List.getElem?_eq_getElem hq, e])))
        go_wp2_with fail
        go_ret
        rw [LB.out]
        exact ⟨rfl, B0.out⟩
  · have h60' : (60 : Int) < (n : Int) := by omega
    have LB : Hid (ltB l = false) := Lib.hid (ltB_long (by rw [← L1.out]; exact h60))
    unfold lgArg
    clear HH
    go_enter Try.func26, Try.ntmps26
    go_wp2_with fail
    go_ret
    rw [LB.out]
    exact ⟨rfl, (Below.refl _ _).alloc (Nat.le_refl _) _⟩
end Go.Proofs.Ytadagbkfemcgfaa
