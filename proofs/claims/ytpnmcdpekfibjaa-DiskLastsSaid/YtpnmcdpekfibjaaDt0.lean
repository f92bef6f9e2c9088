/-
  Own work. A sector on its way, reckoned on the document's disk; no walk.
-/
import Derived.Test.YtpnmcdpekfibjaaDv5
import Derived.Test.YtpnmcdpekfibjaaDz
namespace Go.Proofs.Ytpnmcdpekfibjaa
open Go.RowKit
set_option linter.unusedVariables false
set_option linter.unusedSimpArgs false

theorem RM.flK_rest (m : RM) (k : Nat) : (m.flK k).off = m.off ∧ (m.flK k).way = m.way ∧ (m.flK k).powers = m.powers ∧ (m.flK k).wrote = m.wrote := by
  induction k with
  | zero => exact ⟨rfl, rfl, rfl, rfl⟩
  | succ k ih =>
    rw [RM.flK_succ]
    unfold RM.flI
    split <;> exact ih
theorem RM.flush_ok (m : RM) (n : Nat) (h1 : m.off = false) (h2 : m.arms < 0) : m.flushE = 0 ∧ m.flushM n = m.flK n := by
  have hg : m.goB = true := by unfold RM.goB; rw [decide_eq_true_iff]; omega
  have hm : m.goM = m := by unfold RM.goM; rw [if_pos h2]
  constructor
  · unfold RM.flushE; rw [if_neg (by rw [h1]; decide), if_pos hg]
  · unfold RM.flushM; rw [if_neg (by rw [h1]; decide), if_pos hg, hm]
theorem RM.write_fail (m : RM) (n : Nat) (i : Int) (s : ByteArray) (h1 : m.off = false) (h2 : 0 ≤ i ∧ i < n) (h3 : s.size = 512) (h4 : m.arms = 0) :
    m.writeE n i s = 8 ∧ m.writeM n i s = { m with off := true, way := i, coming := s.extract 0 m.part.toNat } := by
  have hc : m.chk n i s = 0 := by unfold RM.chk; rw [if_neg (by rw [h1]; decide), if_neg (by omega), if_neg (by omega)]
  have hg : ¬ m.goB = true := by unfold RM.goB; rw [decide_eq_true_iff]; omega
  have hm : m.goM = { m with off := true } := by unfold RM.goM; rw [if_neg (by omega), if_neg (by omega)]
  constructor
  · unfold RM.writeE; rw [if_pos hc, if_neg hg]
  · unfold RM.writeM; rw [if_pos hc, if_neg hg, hm]

def tM1 (j : Nat) (X : ByteArray) : RM := (newM 32).writeM 32 j X
def tM2 (waits : Bool) (j : Nat) (X : ByteArray) : RM := if waits = true then tM1 j X else (tM1 j X).flushM 32
def tM3 (waits : Bool) (j : Nat) (X : ByteArray) (p : Int) : RM := (tM2 waits j X).armM 0 p
def tM4 (waits : Bool) (j : Nat) (X Y : ByteArray) (p : Int) : RM := (tM3 waits j X p).writeM 32 j Y
def tM5 (waits keep : Bool) (j : Nat) (X Y : ByteArray) (p : Int) : RM := (tM4 waits j X Y p).powerM 32 [keep]
def clampP (p : Int) : Int := if p < 0 then 0 else if 512 < p then 512 else p
section
variable {waits keep : Bool} {j : Nat} {X Y : ByteArray} {p : Int}
theorem tM1_eq (hj : j < 32) (hX : X.size = 512) : (newM 32).writeE 32 j X = 0 ∧ tM1 j X = { newM 32 with wait := (newM 32).wait.set j X, wrote := 1 } := by
  have := (newM 32).write_ok 32 j X rfl (by omega) hX (by show (-1 : Int) < 0; omega)
  exact ⟨this.1, this.2⟩
theorem tM1_ok (hj : j < 32) : (tM1 j X).Ok 32 := (newM_ok 32 (by omega) (by omega)).write j X (by show 0 < 1073741824; omega)
theorem new_wt (n i : Nat) : ((newM n).wt i).size = 0 := by
  show ((List.replicate n emp).getD i emp).size = 0
  rw [List.getD_eq_getElem?_getD]
  cases h : (List.replicate n emp)[i]? with
  | none => rfl
  | some s => rw [List.eq_of_mem_replicate (List.mem_of_getElem? h)]; rfl
theorem new_ls (n i : Nat) (h : i < n) : (newM n).ls i = zeroS := by
  show (List.replicate n zeroS).getD i emp = zeroS
  rw [List.getD_eq_getElem?_getD, List.getElem?_replicate, if_pos h]; rfl
theorem tM1_at (hj : j < 32) (hX : X.size = 512) : (tM1 j X).wt j = X ∧ (∀ i, i ≠ j → ((tM1 j X).wt i).size = 0) ∧ (tM1 j X).ls j = zeroS ∧ (tM1 j X).off = false ∧ (tM1 j X).arms = -1 ∧ (tM1 j X).way = -1 ∧ (tM1 j X).powers = 0 ∧ (tM1 j X).wrote = 1 := by
  rw [(tM1_eq hj hX).2]
  refine ⟨?_, fun i hi => ?_, new_ls 32 j hj, rfl, rfl, rfl, rfl, rfl⟩
  · show ((newM 32).wait.set j X).getD j emp = X
    rw [getD_set _ _ _ _ (by show j < (List.replicate 32 emp).length; simp; exact hj), if_pos rfl]
  · show (((newM 32).wait.set j X).getD i emp).size = 0
    rw [getD_set _ _ _ _ (by show j < (List.replicate 32 emp).length; simp; exact hj), if_neg (fun e => hi e.symm)]
    exact new_wt 32 i
theorem tM2_ok (hj : j < 32) : (tM2 waits j X).Ok 32 := by
  unfold tM2
  split
  · exact tM1_ok hj
  · exact (tM1_ok hj).flush
theorem tM2_at (hj : j < 32) (hX : X.size = 512) : (((tM2 waits j X).wt j).size ≠ 0 ↔ waits = true) ∧ (waits = true → (tM2 waits j X).wt j = X) ∧ (∀ i, i ≠ j → ((tM2 waits j X).wt i).size = 0) ∧ (tM2 waits j X).ls j = (if waits = true then zeroS else X) ∧ (tM2 waits j X).off = false ∧ (tM2 waits j X).powers = 0 ∧ (tM2 waits j X).wrote = 1 := by
  obtain ⟨h1, h2, h3, h4, h5, h6, h7, h8⟩ := tM1_at hj hX
  unfold tM2
  cases waits with
  | true => exact ⟨⟨fun _ => rfl, fun _ => by show ((tM1 j X).wt j).size ≠ 0; rw [h1, hX]; decide⟩, fun _ => h1, h2, h3, h4, h7, h8⟩
  | false =>
    rw [if_neg (by decide), ((tM1 j X).flush_ok 32 h4 (by omega)).2, if_neg (by decide)]
    have hk := fun i => (tM1 j X).flK_at 32 (tM1_ok hj) 32 i (Nat.le_refl _)
    have hr := (tM1 j X).flK_rest 32
    refine ⟨⟨fun h => ?_, (fun h => (by cases h))⟩, (fun h => (by cases h)), fun i hi => ?_, ?_, (by rw [hr.1, h4]), (by rw [hr.2.2.1, h7]), (by rw [hr.2.2.2, h8])⟩
    · exfalso
      apply h
      rw [(hk j).2, if_pos ⟨hj, by rw [h1, hX]; decide⟩]
      rfl
    · rw [(hk i).2]
      split
      · rfl
      · exact h2 i hi
    · rw [(hk j).1, if_pos ⟨hj, by rw [h1, hX]; decide⟩, h1]
theorem tM3_ok (hj : j < 32) : (tM3 waits j X p).Ok 32 := (tM2_ok hj).arm 0 p (by omega)
theorem tM4_eq (hj : j < 32) (hX : X.size = 512) (hY : Y.size = 512) : (tM3 waits j X p).writeE 32 j Y = 8 ∧ tM4 waits j X Y p = { tM3 waits j X p with off := true, way := j, coming := Y.extract 0 (clampP p).toNat } :=
  (tM3 waits j X p).write_fail 32 j Y (tM2_at hj hX).2.2.2.2.1 (by omega) hY rfl
theorem tM4_ok (hj : j < 32) (hX : X.size = 512) : (tM4 waits j X Y p).Ok 32 := (tM3_ok hj).write j Y (by show (tM2 waits j X).wrote < _; rw [(tM2_at hj hX).2.2.2.2.2.2]; omega)
theorem tM5_ok (hj : j < 32) (hX : X.size = 512) (hY : Y.size = 512) : (tM5 waits keep j X Y p).Ok 32 := (tM4_ok hj hX).power [keep] (by
  rw [(tM4_eq hj hX hY).2]
  show (tM2 waits j X).powers < _
  rw [(tM2_at hj hX).2.2.2.2.2.1]
  omega)
/-- What lies beneath what was torn. -/
def tBase (waits keep : Bool) (X : ByteArray) : ByteArray := if waits = true ∧ keep = false then zeroS else X
theorem tM5_at (hj : j < 32) (hX : X.size = 512) (hY : Y.size = 512) : (tM5 waits keep j X Y p).readE 32 j = 0 ∧ (tM5 waits keep j X Y p).readS 32 j = torn (Y.extract 0 (clampP p).toNat) (tBase waits keep X) ∧ (tM5 waits keep j X Y p).wtK 32 = [] ∧ (tM5 waits keep j X Y p).powers = 1 := by
  obtain ⟨h1, h2, h3, h4, h5, h6, h7⟩ := tM2_at (waits := waits) hj hX
  have ok4 := tM4_ok (waits := waits) (Y := Y) (p := p) hj hX
  have e4 := (tM4_eq (waits := waits) (p := p) hj hX hY).2
  have w4 : ∀ i, (tM4 waits j X Y p).wt i = (tM2 waits j X).wt i := fun i => by rw [e4]; rfl
  have l4 : ∀ i, (tM4 waits j X Y p).ls i = (tM2 waits j X).ls i := fun i => by rw [e4]; rfl
  have hw := fun i hi => (tM4 waits j X Y p).power_wt 32 ok4 [keep] i hi
  have hr := (tM5 waits keep j X Y p).read_at 32 j rfl hj (hw j hj)
  refine ⟨hr.1, ?_, (tM5 waits keep j X Y p).wtK_none 32 hw, ?_⟩
  · rw [hr.2]
    have hl := (tM4 waits j X Y p).power_ls 32 ok4 [keep] j hj
    have hway : (tM4 waits j X Y p).way = (j : Int) := by rw [e4]
    have hcom : (tM4 waits j X Y p).coming = Y.extract 0 (clampP p).toNat := by rw [e4]
    rw [if_pos hway, hcom] at hl
    show ((tM4 waits j X Y p).powerM 32 [keep]).ls j = _
    rw [hl, ((tM4 waits j X Y p).pwK_at 32 ok4 [keep] 32 j (Nat.le_refl _)).1, w4, l4, h4]
    have hwt : (tM4 waits j X Y p).wtK j = [] := (tM4 waits j X Y p).wtK_none j (fun i hi => by rw [w4]; exact h3 i (by omega))
    rw [hwt]
    refine congrArg (torn _) ?_
    unfold tBase
    cases waits with
    | true =>
      rw [h2 rfl]
      cases keep with
      | true => rw [if_pos ⟨hj, by rw [hX]; decide, rfl⟩, if_neg (by decide)]
      | false => rw [if_neg (by rintro ⟨_, _, h⟩; cases h), if_pos rfl, if_pos ⟨rfl, rfl⟩]
    | false =>
      rw [if_neg (fun h => by have := h1.1 h.2.1; cases this), if_neg (by decide), if_neg (by rintro ⟨h, _⟩; cases h)]
  · show ((tM4 waits j X Y p).powerM 32 [keep]).powers = 1
    rw [((tM4 waits j X Y p).powerM_cnt 32 [keep]).2, e4]
    show (tM2 waits j X).powers + 1 = 1
    rw [h6]
end
theorem torn_bytes (a b : List UInt8) (k : Nat) (ha : a.length = 512) (hb : b.length = 512) (hk : k ≤ 512) : torn ((strB a).extract 0 k) (strB b) = ⟨(a.take k ++ b.drop k).toArray⟩ := by
  unfold torn strB
  have hs : ((⟨a.toArray⟩ : ByteArray).extract 0 k).size = k := by
    rw [ByteArray.size_extract]
    show min k a.toArray.size - 0 = k
    simp [ha]
    omega
  rw [hs]
  apply ByteArray.ext
  simp [ByteArray.append_eq, ByteArray.data_append, ByteArray.data_extract, ha, hb]
  exact List.take_of_length_le (by rw [List.length_drop]; show b.length - k ≤ b.toArray.size - k; simp)
end Go.Proofs.Ytpnmcdpekfibjaa
