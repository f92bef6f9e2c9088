/-
  Own work. A port to a disk that may be armed: writes and flushes that are done, or at which the power goes; what each sector may hold behind a Power. No walk.
-/
import Derived.Test.YtadagbkfemcgfaaG3
namespace Go.Proofs.Ytadagbkfemcgfaa
open Go.RowKit
set_option linter.unusedVariables false
set_option linter.unusedSimpArgs false

/-- A port to a disk that goes, armed or not, and shows f. -/
structure AP (p : Pt) (n : Nat) (f : Nat → List UInt8) (W : Nat) : Prop where
  e : p.e = 0
  ok : p.m.Ok n
  on : p.m.off = false
  wy : p.m.way < 0
  at_ : ∀ i, i < n → lst (p.m.at_ i) = f i
  wr : p.m.wrote ≤ W
/-- What each sector may hold behind a Power now. -/
structure May (m : RM) (n : Nat) (Q : Nat → List UInt8 → Prop) : Prop where
  ls : ∀ i, i < n → Q i (lst (m.ls i))
  wt : ∀ i, i < n → (m.wt i).size ≠ 0 → Q i (lst (m.wt i))
  wy : ∀ i : Nat, m.way = (i : Int) → ∀ v : List UInt8, v.length = 512 → Q i v → Q i (lst m.coming ++ v.drop m.coming.size)
/-- s may be written to sector i, or torn over what may be there. -/
def Wr (Q : Nat → List UInt8 → Prop) (i : Nat) (s : List UInt8) : Prop := Q i s ∧ ∀ v k, v.length = 512 → Q i v → Q i (tearL s v k)
/-- A port whose disk went. -/
structure Dead (p : Pt) (n : Nat) (Q : Nat → List UInt8 → Prop) (W : Nat) : Prop where
  e : p.e = 8
  off : p.m.off = true
  ok : p.m.Ok n
  may : May p.m n Q
  wr : p.m.wrote ≤ W
section
variable {p : Pt} {n W : Nat} {f g : Nat → List UInt8} {Q R : Nat → List UInt8 → Prop} {m : RM}
theorem QP.ap (q : QP p n f W) : AP p n f W := ⟨q.e, q.ok, q.on, q.wy, q.at_, q.wr⟩
theorem AP.more {V : Nat} (q : AP p n f W) (h : W ≤ V) : AP p n f V := ⟨q.e, q.ok, q.on, q.wy, q.at_, Nat.le_trans q.wr h⟩
theorem AP.congr (q : AP p n f W) (h : ∀ i, i < n → f i = g i) : AP p n g W := ⟨q.e, q.ok, q.on, q.wy, fun i hi => (q.at_ i hi).trans (h i hi), q.wr⟩
theorem Dead.more {V : Nat} (d : Dead p n Q W) (h : W ≤ V) : Dead p n Q V := ⟨d.e, d.off, d.ok, d.may, Nat.le_trans d.wr h⟩
theorem Dead.write (d : Dead p n Q W) (i : Int) (s : List UInt8) : p.wr n i s = p := by
  unfold Pt.wr
  rw [if_neg (by rw [d.e]; decide)]
theorem Dead.flush (d : Dead p n Q W) : p.fl n = p := by
  unfold Pt.fl
  rw [if_neg (by rw [d.e]; decide)]
theorem May.alive (h : May m n Q) (hw : m.way < 0) (hQ : ∀ i v, i < n → Q i v → R i v) : May m n R :=
  ⟨fun i hi => hQ i _ hi (h.ls i hi), fun i hi hz => hQ i _ hi (h.wt i hi hz), fun i hi => by omega⟩
/-- Nothing waits: each sector holds what it shows. -/
theorem AP.exact_ (q : AP p n f W) (c : Calm p.m n) : May p.m n (fun i v => v = f i) := by
  refine ⟨fun i hi => ?_, fun i hi hz => absurd (c i hi) hz, fun i hi => by have := q.wy; omega⟩
  rw [← q.at_ i hi]
  have e1 : p.m.at_ i = if (p.m.wt i).size = 0 then p.m.ls i else p.m.wt i := rfl
  rw [e1, if_pos (c i hi)]
theorem RM.goM_on (m : RM) (h : m.arms ≠ 0) : ∃ a, m.goM = { m with arms := a } ∧ m.goB = true := by
  refine ⟨if m.arms < 0 then m.arms else m.arms - 1, ?_, by unfold RM.goB; rw [decide_eq_true_iff]; exact h⟩
  unfold RM.goM
  split
  · rfl
  · rw [if_pos (by omega)]
theorem AP.write (q : AP p n f W) (hW : W < 1073741824) {i : Nat} (hi : i < n) {s : List UInt8} (hs : s.length = 512) (hm : May p.m n Q) (hw : Wr Q i s) :
    (AP (p.wr n (i : Int) s) n (upd f i s) (W + 1) ∧ May (p.wr n (i : Int) s).m n Q) ∨ Dead (p.wr n (i : Int) s) n Q W := by
  have hwr := q.wr
  have ok' := Pt.wr_ok q.ok (by omega) (i : Int) s
  have hc : p.m.chk n (i : Int) (strB s) = 0 := by
    unfold RM.chk
    rw [if_neg (by rw [q.on]; decide), if_neg (by omega), if_neg (by rw [strB_size]; omega)]
  have hset : i < p.m.wait.length := by rw [q.ok.nw]; exact hi
  by_cases ha : p.m.arms = 0
  · refine .inr ?_
    have hg : p.m.goB = false := by unfold RM.goB; rw [ha]; rfl
    have hgm : p.m.goM = { p.m with off := true } := by unfold RM.goM; rw [if_neg (by omega), if_neg (by omega)]
    have hp : p.wr n (i : Int) s = ⟨{ p.m with off := true, way := i, coming := (strB s).extract 0 p.m.part.toNat }, 8⟩ := by
      unfold Pt.wr RM.writeM RM.writeE
      rw [if_pos q.e, if_pos hc, if_pos hc, hg, hgm]
      rfl
    rw [hp] at ok' ⊢
    refine ⟨rfl, rfl, ok', ⟨fun k hk => hm.ls k hk, fun k hk hz => hm.wt k hk hz, fun k hk v hv hq => ?_⟩, hwr⟩
    have hki : i = k := by
      have h2 : (i : Int) = (k : Int) := hk
      omega
    subst hki
    have hpt := q.ok.pt
    have e1 : lst ((strB s).extract 0 p.m.part.toNat) = s.take p.m.part.toNat := by
      unfold lst strB
      rw [ByteArray.data_extract]
      simp
    have e2 : ((strB s).extract 0 p.m.part.toNat).size = p.m.part.toNat := by
      rw [ByteArray.size_extract, strB_size, hs]
      omega
    show Q i (lst ((strB s).extract 0 p.m.part.toNat) ++ v.drop ((strB s).extract 0 p.m.part.toNat).size)
    rw [e1, e2]
    exact hw.2 v _ hv hq
  · refine .inl ?_
    obtain ⟨a, hgm, hg⟩ := p.m.goM_on ha
    have hp : p.wr n (i : Int) s = ⟨{ p.m with arms := a, wait := p.m.wait.set i (strB s), wrote := p.m.wrote + 1 }, 0⟩ := by
      unfold Pt.wr RM.writeM RM.writeE
      rw [if_pos q.e, if_pos hc, if_pos hc, hg, hgm]
      rfl
    rw [hp] at ok' ⊢
    have hwt : ∀ k, (({ p.m with arms := a, wait := p.m.wait.set i (strB s), wrote := p.m.wrote + 1 } : RM).wt k) = if i = k then strB s else p.m.wt k := fun k => getD_set _ _ _ _ hset
    refine ⟨⟨rfl, ok', q.on, q.wy, fun k hk => ?_, by show p.m.wrote + 1 ≤ W + 1; omega⟩, ⟨fun k hk => hm.ls k hk, fun k hk hz => ?_, fun k hk => by have := q.wy; have h2 : p.m.way = (k : Int) := hk; omega⟩⟩
    · have e1 : ({ p.m with arms := a, wait := p.m.wait.set i (strB s), wrote := p.m.wrote + 1 } : RM).at_ k = if ((({ p.m with arms := a, wait := p.m.wait.set i (strB s), wrote := p.m.wrote + 1 } : RM).wt k)).size = 0 then p.m.ls k else (({ p.m with arms := a, wait := p.m.wait.set i (strB s), wrote := p.m.wrote + 1 } : RM).wt k) := rfl
      show lst (({ p.m with arms := a, wait := p.m.wait.set i (strB s), wrote := p.m.wrote + 1 } : RM).at_ k) = _
      rw [e1, hwt]
      by_cases hik : i = k
      · subst hik
        rw [if_pos rfl, if_neg (by rw [strB_size]; omega), lst_strB, upd_same]
      · rw [if_neg hik, upd_ne (fun e => hik e.symm)]
        exact q.at_ k hk
    · rw [hwt] at hz ⊢
      by_cases hik : i = k
      · subst hik
        rw [if_pos rfl, lst_strB]
        exact hw.1
      · rw [if_neg hik] at hz ⊢
        exact hm.wt k hk hz
theorem AP.flush (q : AP p n f W) (hm : May p.m n Q) : (AP (p.fl n) n f W ∧ Calm (p.fl n).m n) ∨ Dead (p.fl n) n Q W := by
  have ok' := Pt.fl_ok (p := p) q.ok
  have hw := Pt.fl_wrote p n
  by_cases ha : p.m.arms = 0
  · refine .inr ?_
    have hg : p.m.goB = false := by unfold RM.goB; rw [ha]; rfl
    have hgm : p.m.goM = { p.m with off := true } := by unfold RM.goM; rw [if_neg (by omega), if_neg (by omega)]
    have hp : p.fl n = ⟨{ p.m with off := true }, 8⟩ := by
      unfold Pt.fl RM.flushM RM.flushE
      rw [if_pos q.e, q.on, hg, hgm]
      rfl
    rw [hp] at ok' hw ⊢
    exact ⟨rfl, rfl, ok', ⟨fun k hk => hm.ls k hk, fun k hk hz => hm.wt k hk hz, fun k hk => hm.wy k hk⟩, by rw [hw]; exact q.wr⟩
  · refine .inl ?_
    obtain ⟨a, hgm, hg⟩ := p.m.goM_on ha
    have hp : p.fl n = ⟨({ p.m with arms := a } : RM).flK n, 0⟩ := by
      unfold Pt.fl RM.flushM RM.flushE
      rw [if_pos q.e, q.on, hg, hgm]
      rfl
    have hwy : ∀ k, (({ p.m with arms := a } : RM).flK k).off = p.m.off ∧ (({ p.m with arms := a } : RM).flK k).way = p.m.way := by
      intro k
      induction k with
      | zero => exact ⟨rfl, rfl⟩
      | succ k ih =>
        rw [RM.flK_succ]
        unfold RM.flI
        split
        · exact ih
        · exact ih
    have oka : ({ p.m with arms := a } : RM).Ok n := by
      have h1 := q.ok.go
      rwa [hgm] at h1
    rw [hp] at ok' hw ⊢
    have hat := ({ p.m with arms := a } : RM).flK_at n oka n
    refine ⟨⟨rfl, ok', (hwy n).1.trans q.on, by rw [(hwy n).2]; exact q.wy, fun k hk => ?_, by rw [hw]; exact q.wr⟩, fun k hk => ?_⟩
    · obtain ⟨h1, h2⟩ := hat k (Nat.le_refl _)
      have e1 : (({ p.m with arms := a } : RM).flK n).at_ k = if ((({ p.m with arms := a } : RM).flK n).wt k).size = 0 then (({ p.m with arms := a } : RM).flK n).ls k else (({ p.m with arms := a } : RM).flK n).wt k := rfl
      have e0 : p.m.at_ k = if (p.m.wt k).size = 0 then p.m.ls k else p.m.wt k := rfl
      have ew : ({ p.m with arms := a } : RM).wt k = p.m.wt k := rfl
      have el : ({ p.m with arms := a } : RM).ls k = p.m.ls k := rfl
      show lst ((({ p.m with arms := a } : RM).flK n).at_ k) = _
      rw [← q.at_ k hk, e1, e0, h1, h2, ew, el]
      by_cases hz : (p.m.wt k).size = 0
      · have hn : ¬ (k < n ∧ (p.m.wt k).size ≠ 0) := fun h => h.2 hz
        simp only [if_neg hn, if_pos hz]
      · have hn : k < n ∧ (p.m.wt k).size ≠ 0 := ⟨hk, hz⟩
        simp only [if_pos hn, if_neg hz]
        rw [if_pos (show emp.size = 0 from rfl)]
    · obtain ⟨_, h2⟩ := hat k (Nat.le_refl _)
      rw [h2]
      split
      · rfl
      · rename_i hn
        by_cases hz : (p.m.wt k).size = 0
        · exact hz
        · exact absurd ⟨hk, hz⟩ hn
/-- Behind a Power. -/
theorem May.power (h : May m n Q) (ok : m.Ok n) (keep : List Bool) (hp : m.powers < 1073741824) (hw : m.wrote ≤ W) :
    ∃ f, QP ⟨m.powerM n keep, 0⟩ n f W ∧ Calm (m.powerM n keep) n ∧ ∀ i, i < n → Q i (f i) := by
  have hc2 : Calm (m.powerM n keep) n := fun i hi => m.power_wt n ok keep i hi
  have hcn := m.powerM_cnt n keep
  refine ⟨fun i => lst ((m.powerM n keep).ls i), ⟨rfl, ok.power keep hp, rfl, by show (-1 : Int) < 0; decide, by show (-1 : Int) < 0; decide, fun i hi => ?_, by rw [show (Pt.mk (m.powerM n keep) 0).m = m.powerM n keep from rfl, hcn.1]; exact hw⟩, hc2, fun i hi => ?_⟩
  · have e1 : (m.powerM n keep).at_ i = if ((m.powerM n keep).wt i).size = 0 then (m.powerM n keep).ls i else (m.powerM n keep).wt i := rfl
    show lst ((m.powerM n keep).at_ i) = _
    rw [e1, if_pos (hc2 i hi)]
  · have hX : Q i (lst ((m.pwK keep n).1.ls i)) ∧ ((m.pwK keep n).1.ls i).size = 512 := by
      have okk : (m.pwK keep n).1.Ok n := ok.pwK keep n
      constructor
      · rw [(m.pwK_at n ok keep n i (Nat.le_refl _)).1]
        split
        · rename_i hh
          exact h.wt i hi hh.2.1
        · exact h.ls i hi
      · have hl : i < (m.pwK keep n).1.last.length := by rw [okk.nl]; exact hi
        refine okk.ls _ ?_
        unfold RM.ls
        rw [List.getD_eq_getElem?_getD, List.getElem?_eq_getElem hl]
        exact List.getElem_mem hl
    show Q i (lst ((m.powerM n keep).ls i))
    rw [m.power_ls n ok keep i hi]
    split
    · rename_i hway
      have e : lst (torn m.coming ((m.pwK keep n).1.ls i)) = lst m.coming ++ (lst ((m.pwK keep n).1.ls i)).drop m.coming.size := by
        unfold torn lst
        rw [ByteArray.data_append, ByteArray.data_extract, Array.toList_append]
        congr 1
        simp
        exact List.take_of_length_le (by simp)
      rw [e]
      exact h.wy i hway _ hX.2 hX.1
    · exact hX.1
end
end Go.Proofs.Ytadagbkfemcgfaa
