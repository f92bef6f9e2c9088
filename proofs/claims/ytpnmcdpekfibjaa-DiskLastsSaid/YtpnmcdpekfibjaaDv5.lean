/-
  Own work. The document's disk, sector by sector: what flushes and failures of the power do to one of them; no walk.
-/
import Derived.Test.YtpnmcdpekfibjaaDb
namespace Go.Proofs.Ytpnmcdpekfibjaa
open Go.RowKit
set_option linter.unusedVariables false
set_option linter.unusedSimpArgs false

def RM.wt (m : RM) (i : Nat) : ByteArray := m.wait.getD i emp
def RM.ls (m : RM) (i : Nat) : ByteArray := m.last.getD i emp
theorem getD_set (l : List ByteArray) (i j : Nat) (s : ByteArray) (hi : i < l.length) : (l.set i s).getD j emp = if i = j then s else l.getD j emp := by
  rw [List.getD_eq_getElem?_getD, List.getD_eq_getElem?_getD, List.getElem?_set]
  split
  · rename_i h
    subst h
    first | rfl | (rw [if_pos hi]; rfl)
  · rfl
theorem RM.flK_at (m : RM) (n : Nat) (ok : m.Ok n) (k j : Nat) (hk : k ≤ n) :
    (m.flK k).ls j = (if j < k ∧ (m.wt j).size ≠ 0 then m.wt j else m.ls j) ∧ (m.flK k).wt j = if j < k ∧ (m.wt j).size ≠ 0 then emp else m.wt j := by
  induction k with
  | zero => rw [if_neg (by omega), if_neg (by omega)]; exact ⟨rfl, rfl⟩
  | succ k ih =>
    obtain ⟨h1, h2⟩ := ih (by omega)
    have okk := ok.flK k
    have hw : (m.flK k).wt k = m.wt k := by
      clear h1 h2
      have : ∀ q, q ≤ k → (m.flK q).wt k = m.wt k := by
        intro q
        induction q with
        | zero => intro _; rfl
        | succ q ih =>
          intro hq
          rw [← ih (by omega), RM.flK_succ]
          unfold RM.flI
          split
          · rfl
          · show ((m.flK q).wait.set q emp).getD k emp = _
            rw [getD_set _ _ _ _ (by rw [(ok.flK q).nw]; omega), if_neg (by omega)]
            rfl
      exact this k (Nat.le_refl _)
    rw [RM.flK_succ]
    unfold RM.flI
    show (if ((m.flK k).wt k).size = 0 then m.flK k else _).ls j = _ ∧ (if ((m.flK k).wt k).size = 0 then m.flK k else _).wt j = _
    rw [hw]
    by_cases hz : (m.wt k).size = 0
    · rw [if_pos hz, h1, h2]
      by_cases hj : j = k
      · subst hj
        rw [if_neg (by omega), if_neg (by omega), if_neg (by simp [hz]), if_neg (by simp [hz])]
        exact ⟨rfl, rfl⟩
      · constructor <;> (congr 1; rw [eq_iff_iff]; omega)
    · rw [if_neg hz]
      show ((m.flK k).last.set k ((m.flK k).wt k)).getD j emp = _ ∧ ((m.flK k).wait.set k emp).getD j emp = _
      rw [getD_set _ _ _ _ (by rw [okk.nl]; omega), getD_set _ _ _ _ (by rw [okk.nw]; omega), hw]
      by_cases hj : k = j
      · subst hj
        rw [if_pos rfl, if_pos rfl, if_pos ⟨by omega, hz⟩, if_pos ⟨by omega, hz⟩]
        exact ⟨rfl, rfl⟩
      · rw [if_neg hj, if_neg hj]
        show (m.flK k).ls j = _ ∧ (m.flK k).wt j = _
        rw [h1, h2]
        constructor <;> (congr 1; rw [eq_iff_iff]; omega)
theorem RM.pwK_at (m : RM) (n : Nat) (ok : m.Ok n) (keep : List Bool) (k j : Nat) (hk : k ≤ n) :
    (m.pwK keep k).1.ls j = (if j < k ∧ (m.wt j).size ≠ 0 ∧ keep.getD (m.wtK j).length false = true then m.wt j else m.ls j) ∧ (m.pwK keep k).1.wt j = (if j < k ∧ (m.wt j).size ≠ 0 then emp else m.wt j) ∧ (m.pwK keep k).2 = (m.wtK k).length := by
  induction k generalizing j with
  | zero => rw [if_neg (by omega), if_neg (by omega)]; exact ⟨rfl, rfl, rfl⟩
  | succ k ih =>
    obtain ⟨h1, h2, h3⟩ := ih j (by omega)
    obtain ⟨_, hw, _⟩ := ih k (by omega)
    rw [if_neg (by omega)] at hw
    have okk : (m.pwK keep k).1.Ok n := ok.pwK keep k
    rw [RM.pwK_succ, RM.wtK_succ]
    unfold RM.pwI
    show (if ((m.pwK keep k).1.wt k).size = 0 then m.pwK keep k else _).1.ls j = _ ∧ (if ((m.pwK keep k).1.wt k).size = 0 then m.pwK keep k else _).1.wt j = _ ∧ (if ((m.pwK keep k).1.wt k).size = 0 then m.pwK keep k else _).2 = (if (m.wt k).size = 0 then m.wtK k else m.wtK k ++ [k]).length
    rw [hw]
    by_cases hz : (m.wt k).size = 0
    · rw [if_pos hz, if_pos hz, h1, h2]
      refine ⟨?_, ?_, h3⟩
      · by_cases hj : j = k
        · subst hj
          rw [if_neg (by omega), if_neg (by simp [hz])]
        · congr 1
          rw [eq_iff_iff]
          constructor
          · rintro ⟨a, b⟩; exact ⟨by omega, b⟩
          · rintro ⟨a, b⟩; exact ⟨by omega, b⟩
      · by_cases hj : j = k
        · subst hj
          rw [if_neg (by omega), if_neg (by simp [hz])]
        · congr 1
          rw [eq_iff_iff]
          omega
    · rw [if_neg hz, if_neg hz]
      refine ⟨?_, ?_, by show (m.pwK keep k).2 + 1 = _; rw [h3, List.length_append]; rfl⟩
      · show (if keep.getD (m.pwK keep k).2 false = true then (m.pwK keep k).1.last.set k ((m.pwK keep k).1.wt k) else (m.pwK keep k).1.last).getD j emp = _
        rw [h3, hw]
        by_cases hj : k = j
        · subst hj
          by_cases hkp : keep.getD (m.wtK k).length false = true
          · rw [if_pos hkp, getD_set _ _ _ _ (by rw [okk.nl]; omega), if_pos rfl, if_pos ⟨by omega, hz, hkp⟩]
          · rw [if_neg hkp, if_neg (fun h => hkp h.2.2)]
            show (m.pwK keep k).1.ls k = _
            rw [h1, if_neg (by omega)]
        · have e : (if keep.getD (m.wtK k).length false = true then (m.pwK keep k).1.last.set k (m.wt k) else (m.pwK keep k).1.last).getD j emp = (m.pwK keep k).1.ls j := by
            split
            · rw [getD_set _ _ _ _ (by rw [okk.nl]; omega), if_neg hj]; rfl
            · rfl
          rw [e, h1]
          congr 1
          rw [eq_iff_iff]
          constructor
          · rintro ⟨a, b⟩; exact ⟨by omega, b⟩
          · rintro ⟨a, b⟩; exact ⟨by omega, b⟩
      · show ((m.pwK keep k).1.wait.set k emp).getD j emp = _
        rw [getD_set _ _ _ _ (by rw [okk.nw]; omega)]
        by_cases hj : k = j
        · subst hj
          rw [if_pos rfl, if_pos ⟨by omega, hz⟩]
        · rw [if_neg hj]
          show (m.pwK keep k).1.wt j = _
          rw [h2]
          congr 1
          rw [eq_iff_iff]
          omega
theorem RM.power_wt (m : RM) (n : Nat) (ok : m.Ok n) (keep : List Bool) (j : Nat) (hj : j < n) : ((m.powerM n keep).wt j).size = 0 := by
  have h := (m.pwK_at n ok keep n j (Nat.le_refl _)).2.1
  have e : (m.powerM n keep).wt j = (m.pwK keep n).1.wt j := by
    show (m.pwK keep n).1.flyM.wait.getD j emp = _
    unfold RM.flyM
    split <;> rfl
  rw [e, h]
  split
  · rfl
  · rename_i hn
    by_cases hz : (m.wt j).size = 0
    · exact hz
    · exact absurd ⟨hj, hz⟩ hn
theorem RM.power_ls (m : RM) (n : Nat) (ok : m.Ok n) (keep : List Bool) (j : Nat) (hj : j < n) :
    (m.powerM n keep).ls j = if m.way = (j : Int) then torn m.coming ((m.pwK keep n).1.ls j) else (m.pwK keep n).1.ls j := by
  have h1 := m.pwK_way keep n
  have okk : (m.pwK keep n).1.Ok n := ok.pwK keep n
  show (m.pwK keep n).1.flyM.last.getD j emp = _
  unfold RM.flyM
  rw [h1.1, h1.2.1]
  by_cases h0 : 0 ≤ m.way
  · rw [if_pos h0]
    have hwn : m.way.toNat < n := by have := ok.wy; omega
    show ((m.pwK keep n).1.last.set m.way.toNat (torn m.coming ((m.pwK keep n).1.last.getD m.way.toNat emp))).getD j emp = _
    rw [getD_set _ _ _ _ (by rw [okk.nl]; exact hwn)]
    by_cases hw : m.way = (j : Int)
    · rw [if_pos hw, if_pos (by omega), show m.way.toNat = j by omega]
      rfl
    · rw [if_neg hw, if_neg (by omega)]
      rfl
  · rw [if_neg h0, if_neg (by omega)]
    rfl
theorem RM.wtK_none (m : RM) (k : Nat) (h : ∀ i, i < k → (m.wt i).size = 0) : m.wtK k = [] := by
  induction k with
  | zero => rfl
  | succ k ih => rw [RM.wtK_succ, if_pos (show (m.wait.getD k emp).size = 0 from h k (by omega)), ih (fun i hi => h i (by omega))]
theorem RM.read_at (m : RM) (n i : Nat) (h1 : m.off = false) (h2 : i < n) (h3 : (m.wt i).size = 0) : m.readE n i = 0 ∧ m.readS n i = m.ls i := by
  have he : m.readE n i = 0 := by unfold RM.readE; rw [if_neg (by rw [h1]; decide), if_neg (by omega)]
  refine ⟨he, ?_⟩
  unfold RM.readS RM.at_
  rw [if_pos he, show ((i : Int)).toNat = i from rfl]
  exact if_pos h3
end Go.Proofs.Ytpnmcdpekfibjaa
