/-
  Own work. How many sectors a transaction has written; begun of layer 7; finished transactions.
-/
import Derived.Test.YtadagbkfemcgfaaGreatTl
namespace Go.Proofs.YtadagbkfemcgfaaGreat
open Go.RowKit Go.Maps
set_option linter.unusedVariables false
set_option linter.unusedSimpArgs false

theorem frK_succ (ws : List ByteArray) (k : Nat) : frK ws (k + 1) = if (ws.getD k emp).size = 0 then frK ws k else frK ws k ++ [k] := (frM ws).wtK_succ k
theorem frK_cnt {ws : List ByteArray} {i : Nat} (hi : i < ws.length) {s : ByteArray} (hs : s.size ≠ 0) : ∀ k, (frK (ws.set i s) k).length = (frK ws k).length + if i < k ∧ (ws.getD i emp).size = 0 then 1 else 0
  | 0 => by rw [if_neg (by omega)]; rfl
  | k + 1 => by
    have ih := frK_cnt hi hs k
    rw [frK_succ, frK_succ, getD_set _ _ _ _ hi]
    by_cases e : i = k
    · subst e
      rw [if_pos rfl, if_neg hs]
      rw [if_neg (by omega)] at ih
      by_cases h0 : (ws.getD i emp).size = 0
      · rw [if_pos h0, if_pos ⟨by omega, h0⟩, List.length_append, ih]
        rfl
      · rw [if_neg h0, if_neg (fun h => h0 h.2), List.length_append, List.length_append, ih]
        rfl
    · rw [if_neg e]
      have ec : (if i < k + 1 ∧ (ws.getD i emp).size = 0 then 1 else 0) = if i < k ∧ (ws.getD i emp).size = 0 then 1 else 0 := by
        by_cases hik : i < k
        · by_cases h0 : (ws.getD i emp).size = 0
          · rw [if_pos ⟨by omega, h0⟩, if_pos ⟨hik, h0⟩]
          · rw [if_neg (fun h => h0 h.2), if_neg (fun h => h0 h.2)]
        · rw [if_neg (by omega), if_neg (by omega)]
      rw [ec]
      by_cases h0 : (ws.getD k emp).size = 0
      · rw [if_pos h0, if_pos h0, ih]
      · rw [if_neg h0, if_neg h0, List.length_append, List.length_append, ih]
        show _ + 1 = _ + 1 + _
        omega
theorem frK_rep (N k : Nat) : (frK (List.replicate N emp) k).length = 0 := by rw [frK_nil]; rfl
theorem rep_emp (N i : Nat) : ((List.replicate N emp).getD i emp).size = 0 := by
  rw [List.getD_eq_getElem?_getD, List.getElem?_replicate]
  split <;> rfl
/-- One sector written. -/
theorem one_cnt {N i : Nat} {s : ByteArray} (hi : i < N) (hs : s.size ≠ 0) : (frK ((List.replicate N emp).set i s) N).length = 1 := by
  rw [frK_cnt (by rw [List.length_replicate]; exact hi) hs, frK_rep, if_pos ⟨hi, rep_emp N i⟩]
section
variable {Z : DK} {w : World}
end
end Go.Proofs.YtadagbkfemcgfaaGreat
