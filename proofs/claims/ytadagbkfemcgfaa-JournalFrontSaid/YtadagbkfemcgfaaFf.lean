/-
  Own work. JournalFront, the parts without a walk: what any list asked to be committed leaves, the disk armed or not.
-/
import Derived.Test.YtadagbkfemcgfaaCu6
import Derived.Test.YtadagbkfemcgfaaOvs
import Derived.Test.YtadagbkfemcgfaaLi
namespace Go.Proofs.Ytadagbkfemcgfaa
open Go.RowKit Go.Maps
set_option linter.unusedVariables false
set_option linter.unusedSimpArgs false

theorem lsE_vals (h : Nat) : ∀ (l : List Pu) (seen : List Int), lsE h seen l = 0 ∨ lsE h seen l = 1 ∨ lsE h seen l = 9
  | [], _ => .inl rfl
  | x :: r, seen => by
    unfold lsE
    split
    · exact .inr (.inl rfl)
    · split
      · exact .inr (.inr rfl)
      · exact lsE_vals h r _
theorem lsE_all (h : Nat) : ∀ (l : List Pu) (seen : List Int), lsE h seen l = 0 → ∀ x ∈ l, 0 ≤ x.i ∧ x.i < (h : Int) ∧ x.data.length = 512
  | [], _, _, _, hx => by cases hx
  | y :: r, seen, he, x, hx => by
    unfold lsE at he
    split at he
    · cases he
    · rename_i h1
      split at he
      · cases he
      · rename_i h2
        rcases List.mem_cons.1 hx with rfl | hx
        · exact ⟨by omega, by omega, by omega⟩
        · exact lsE_all h r _ he x hx
theorem lstE_vals (n : Nat) (j : JM) (l : List Pu) (h : lstE n j l ≠ 0) : lstE n j l ≠ 8 := by
  unfold lstE at *
  rcases lsE_vals (j.homes n) l [] with e | e | e
  · rw [e] at *
    simp only [ne_eq, not_true_eq_false, ite_false] at *
    split <;> decide
  · rw [e, if_pos (by decide)]; decide
  · rw [e, if_pos (by decide)]; decide
theorem lstE_all {n : Nat} {j : JM} {l : List Pu} (h : lstE n j l = 0) : ∀ x ∈ l, 0 ≤ x.i ∧ x.i < (j.homes n : Int) ∧ x.data.length = 512 := by
  unfold lstE at h
  split at h
  · rename_i h'; exact absurd h h'
  · rename_i h'
    exact lsE_all _ l [] (Classical.not_not.1 h')
section
variable {p : Pt} {n V T u r : Nat} {j : JM} {H : Nat → List UInt8}
theorem SA.bad (a : SA p n V j T u r H) (hV : V ≤ 1073000000) {l : List Pu} (hv : lstE n j l ≠ 0) : cmt p n j l = ⟨lstE n j l, p, j⟩ := by
  obtain ⟨b1, b2, b3, b4, b5, b6, b7, b8, b9, b10, b11, b12, b13, b14, b15⟩ := a.facts hV
  unfold cmt
  rw [if_neg (by rw [b15]; exact fun h => h rfl), if_pos hv]
theorem SA.nil (a : SA p n V j T u r H) (hV : V ≤ 1073000000) : cmt p n j [] = ⟨0, p, j⟩ := by
  obtain ⟨b1, b2, b3, b4, b5, b6, b7, b8, b9, b10, b11, b12, b13, b14, b15⟩ := a.facts hV
  have hv : lstE n j [] = 0 := by
    unfold lstE lsE
    rw [if_neg (by decide), if_neg (by rw [b2]; show ¬ (40 < 0 ∨ r ≤ 0); omega)]
  unfold cmt
  rw [if_neg (by rw [b15]; exact fun h => h rfl), if_neg (by rw [hv]; exact fun h => h rfl), if_pos rfl]
theorem SA.aftF (a : SA p n V j T u r H) : Aft p.m n V (Rec n V r T H) := by
  obtain ⟨f, q, c, hr⟩ := a.rec_
  exact q.aft c (fun g hg => hr.congr hg)
/-- What any list asked to be committed leaves. -/
theorem SA.front (a : SA p n V j T u r H) (hV : V + n + 60 ≤ 1073000000) (l : List Pu) :
    ((cmt p n j l).e ≠ 0 ∧ (cmt p n j l).e ≠ 8 ∧ SA (cmt p n j l).p n (V + n + 43) (cmt p n j l).j T u r H) ∨
    ((∀ x ∈ l, 0 ≤ x.i ∧ x.i < ((n - 2 - r : Nat) : Int) ∧ x.data.length = 512) ∧
      (((cmt p n j l).e = 0 ∧ ∃ T' u', SA (cmt p n j l).p n (V + n + 43) (cmt p n j l).j T' u' r (putH H (chs l))) ∨
       ((cmt p n j l).e = 8 ∧ (cmt p n j l).p.m.off = true ∧ (cmt p n j l).p.m.Ok n ∧ Aft (cmt p n j l).p.m n (V + n + 43) (fun g => Rec n (V + n + 43) r T H g ∨ Rec n (V + n + 43) r (T + 1) (putH H (chs l)) g)))) := by
  obtain ⟨b1, b2, b3, b4, b5, b6, b7, b8, b9, b10, b11, b12, b13, b14, b15⟩ := a.facts (by omega)
  by_cases hv : lstE n j l = 0
  · have hall := lstE_all hv
    rw [b1] at hall
    refine .inr ⟨hall, ?_⟩
    by_cases hl : l = []
    · subst hl
      rw [a.nil (by omega)]
      exact .inl ⟨rfl, T, u, a.more (by omega)⟩
    · rcases a.commit (by omega) hv hl with ⟨q1, u', q2⟩ | ⟨q1, q2⟩
      · exact .inl ⟨q1, T + 1, u', q2⟩
      · refine .inr ⟨q1, ?_, ?_, q2.aft⟩
        · obtain ⟨Q, d, _⟩ := q2; exact d.off
        · obtain ⟨Q, d, _⟩ := q2; exact d.ok
  · rw [a.bad (by omega) hv]
    exact .inl ⟨hv, lstE_vals n j l hv, a.more (by omega)⟩
end
/-! ### The homes behind the first k of a list -/
def putK (H : Nat → List UInt8) (l : List Pu) (k : Nat) : Nat → List UInt8 := putH H (chs (l.take k))
theorem putK_zero (H : Nat → List UInt8) (l : List Pu) : putK H l 0 = H := rfl
theorem putK_all (H : Nat → List UInt8) (l : List Pu) : putK H l l.length = putH H (chs l) := by unfold putK; rw [List.take_length]
theorem putK_succ (H : Nat → List UInt8) (l : List Pu) (k : Nat) (x : Pu) (h : l[k]? = some x) : putK H l (k + 1) = upd (putK H l k) x.i.toNat x.data := by
  unfold putK
  obtain ⟨hk, rfl⟩ := List.getElem?_eq_some_iff.1 h
  rw [List.take_succ_eq_append_getElem hk]
  unfold chs putH
  rw [List.map_append, List.foldl_append]
  rfl
theorem putK_row (H : Nat → List UInt8) (l : List Pu) (k h : Nat) (x : Pu) (hx : l[k]? = some x) (hi : x.i.toNat < h) : (strs (hsL (putK H l k) h)).set x.i.toNat (.string (strB x.data)) = strs (hsL (putK H l (k + 1)) h) := by
  rw [putK_succ H l k x hx, strs_set, hsL_set _ _ _ _ hi]
end Go.Proofs.Ytadagbkfemcgfaa
