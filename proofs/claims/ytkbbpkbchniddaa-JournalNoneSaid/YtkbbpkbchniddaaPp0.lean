/-
  Own work. The program's disk: Power, reckoned.
-/
import Derived.Test.YtkbbpkbchniddaaPg
import Derived.Test.YtkbbpkbchniddaaPs
namespace Go.Proofs.Ytkbbpkbchniddaa
open Go.RowKit Go.Maps
set_option linter.unusedVariables false
set_option linter.unusedSimpArgs false

theorem RM.wtK_idx (m : RM) (n i : Nat) (hi : i < n) (h : (m.wait.getD i emp).size ≠ 0) : (m.wtK n)[(m.wtK i).length]? = some i := by
  induction n with
  | zero => omega
  | succ n ih =>
    rw [RM.wtK_succ]
    by_cases e : i = n
    · subst e
      rw [if_neg h]
      simp
    · have := ih (by omega)
      split
      · exact this
      · rw [List.getElem?_append_left (List.getElem?_eq_some_iff.1 this).1]
        exact this
theorem RM.wtK_get (m : RM) (n j i : Nat) (h : (m.wtK n)[j]? = some i) : i < n ∧ (m.wait.getD i emp).size ≠ 0 ∧ (m.wtK i).length = j := by
  induction n with
  | zero => simp [RM.wtK] at h
  | succ n ih =>
    rw [RM.wtK_succ] at h
    split at h
    · obtain ⟨h1, h2, h3⟩ := ih h
      exact ⟨by omega, h2, h3⟩
    · rename_i hz
      by_cases hj : j < (m.wtK n).length
      · rw [List.getElem?_append_left hj] at h
        obtain ⟨h1, h2, h3⟩ := ih h
        exact ⟨by omega, h2, h3⟩
      · rw [List.getElem?_append_right (by omega)] at h
        obtain ⟨h1, h2⟩ := List.getElem?_eq_some_iff.1 h
        simp at h1 h2
        subst h2
        exact ⟨by omega, hz, by omega⟩
/-- Which sectors have been kept behind j of the waiting ones. -/
def pwF (m : RM) (keep : List Bool) (j i : Nat) : Bool := pendB m i && (decide ((m.wtK i).length < j) && keep.getD (m.wtK i).length false)
theorem pwF_pend (m : RM) (keep : List Bool) (j i : Nat) (h : pwF m keep j i = true) : pendB m i = true := by
  unfold pwF at h
  rw [Bool.and_eq_true] at h
  exact h.1
theorem pw_zero (m : RM) (n : Nat) (ok : m.Ok n) (keep : List Bool) : mix m n (pwF m keep 0) = m.last :=
  mix_none m n ok _ fun i _ => by
    unfold pwF
    simp
theorem pwF_other (m : RM) (n : Nat) (keep : List Bool) (j i : Nat) (hj : (m.wtK n)[j]? = some i) (i' : Nat) (hi' : i' < n) (hne : i' ≠ i) : pwF m keep (j + 1) i' = pwF m keep j i' := by
  unfold pwF
  by_cases hp : pendB m i' = true
  · have hne2 : (m.wtK i').length ≠ j := fun e => by
      have := m.wtK_idx n i' hi' (of_decide_eq_true hp)
      rw [e, hj] at this
      injection this with this
      exact hne this.symm
    have : decide ((m.wtK i').length < j + 1) = decide ((m.wtK i').length < j) := by
      rw [Bool.eq_iff_iff, decide_eq_true_iff, decide_eq_true_iff]; omega
    rw [this]
  · rw [Bool.not_eq_true] at hp
    rw [hp]
    rfl
theorem pw_keep (m : RM) (n : Nat) (keep : List Bool) (j i : Nat) (hj : (m.wtK n)[j]? = some i) (hk : keep.getD j false = true) : mix m n (pwF m keep (j + 1)) = (mix m n (pwF m keep j)).set i (m.wait.getD i emp) := by
  obtain ⟨h1, h2, h3⟩ := m.wtK_get n j i hj
  refine mix_set m n _ _ i h1 ?_ (pwF_other m n keep j i hj)
  unfold pwF
  have hp : pendB m i = true := decide_eq_true h2
  rw [h3, hk, hp]
  simp
theorem pw_drop (m : RM) (n : Nat) (keep : List Bool) (j i : Nat) (hj : (m.wtK n)[j]? = some i) (hk : keep.getD j false = false) : mix m n (pwF m keep (j + 1)) = mix m n (pwF m keep j) := by
  obtain ⟨h1, h2, h3⟩ := m.wtK_get n j i hj
  refine mix_same m n _ _ fun i' hi' => ?_
  by_cases e : i' = i
  · subst e
    unfold pwF
    rw [h3, hk]
    simp
  · exact pwF_other m n keep j i hj i' hi' e
/-- Behind the loop. -/
theorem pw_end (m : RM) (n : Nat) (ok : m.Ok n) (keep : List Bool) : ∃ W, (m.pwK keep n).1 = { m with last := mix m n (pwF m keep (m.wtK n).length), wait := W } ∧ ∀ i, i < n → (W.getD i emp).size = 0 := by
  obtain ⟨L, W, e⟩ := m.pwK_form keep n
  have okf := ok.pwK keep n
  rw [e] at okf
  refine ⟨W, ?_, fun i hi => ?_⟩
  · rw [e]
    have : L = mix m n (pwF m keep (m.wtK n).length) := getD_ext okf.nl (mix_len _ _ _) fun i hi => by
      have h1 := (m.pwK_at n ok keep n i (Nat.le_refl _)).1
      rw [e] at h1
      rw [mix_at _ _ _ hi]
      refine h1.trans ?_
      unfold pwF
      by_cases h0 : (m.wait.getD i emp).size = 0
      · have hp : pendB m i = false := decide_eq_false (fun hh => hh h0)
        rw [if_neg (fun hh => hh.2.1 h0), hp]; rfl
      · have hp : pendB m i = true := decide_eq_true h0
        have hl : decide ((m.wtK i).length < (m.wtK n).length) = true := decide_eq_true (List.getElem?_eq_some_iff.1 (m.wtK_idx n i hi h0)).1
        rw [hp, hl]
        by_cases hk : keep.getD (m.wtK i).length false = true
        · rw [if_pos ⟨hi, h0, hk⟩, hk]; rfl
        · rw [if_neg (fun hh => hk hh.2.2)]
          rw [Bool.not_eq_true] at hk
          rw [hk]; rfl
    rw [this]
  · have h2 := (m.pwK_at n ok keep n i (Nat.le_refl _)).2.1
    rw [e] at h2
    have h3 : W.getD i emp = if i < n ∧ (m.wt i).size ≠ 0 then emp else m.wt i := h2
    rw [h3]
    split
    · rfl
    · rename_i hh
      by_cases h0 : (m.wt i).size = 0
      · exact h0
      · exact absurd ⟨hi, h0⟩ hh
/-! ### The sector on its way -/
theorem flat_split {l : List ByteArray} (hl : ∀ s ∈ l, s.size = 512) {k : Nat} (hk : k < l.length) : flat l = (flat l).take (512 * k) ++ lst (l.getD k emp) ++ (flat l).drop (512 * k + 512) := by
  have h := flat_set hl hk (l.getD k emp)
  have e : l.set k (l.getD k emp) = l := by
    rw [List.getD_eq_getElem?_getD, List.getElem?_eq_getElem hk]
    exact List.set_getElem_self hk
  rw [e] at h
  exact h
theorem lst_torn (c s : ByteArray) : lst (torn c s) = lst c ++ (lst s).drop (lst c).length := by
  unfold torn lst
  rw [ByteArray.data_append, Array.toList_append, ByteArray.data_extract, Array.toList_extract]
  congr 1
  rw [List.extract_eq_take_drop]
  exact List.take_of_length_le (by rw [List.length_drop]; exact Nat.le_refl _)
theorem flat_torn {l : List ByteArray} (hl : ∀ s ∈ l, s.size = 512) {k : Nat} (hk : k < l.length) {c : ByteArray} (hc : c.size ≤ 512) :
    flat (l.set k (torn c (l.getD k emp))) = (flat l).take (k * 512) ++ (lst c ++ (flat l).drop (k * 512 + (lst c).length)) := by
  have hs : (l.getD k emp).size = 512 := hl _ (by rw [List.getD_eq_getElem?_getD, List.getElem?_eq_getElem hk]; exact List.getElem_mem hk)
  have hcl : (lst c).length ≤ 512 := hc
  have hll : (lst (l.getD k emp)).length = 512 := hs
  rw [flat_set hl hk, lst_torn, Nat.mul_comm k 512]
  have h1 : (flat l).drop (512 * k + (lst c).length) = (lst (l.getD k emp)).drop (lst c).length ++ (flat l).drop (512 * k + 512) := by
    conv => lhs; rw [flat_split hl hk]
    have ht : ((flat l).take (512 * k)).length = 512 * k := by
      rw [List.length_take, flat_len hl]; omega
    rw [List.append_assoc, List.drop_append, List.drop_eq_nil_of_le (by rw [ht]; omega), List.nil_append, ht, show 512 * k + (lst c).length - 512 * k = (lst c).length by omega, List.drop_append]
    rw [show (lst c).length - (lst (l.getD k emp)).length = 0 by omega, List.drop_zero]
  rw [h1]
  simp [List.append_assoc]

section
variable {S : Nat → Prop} {w w' : World} {g gd gp n : Nat} {m m' : RM} {x x' : PX} {D : DU}
/-- copy into a row of bytes, at a place of it. -/
theorem wpList_copyD {P : Program} {ops : Array Oper} {rest : List Oper} {o : Oper} {a : Act} {W : World} {Q : Exit → Act → World → Prop} (hgd : o.guard = none) (d s : Operand)
    (ho : o.op = .call { callee := .builtin .copy, args := #[d, s], argTypes := #[39, 39] }) (ht : P.underlying 39 = some (.slice 5)) (hsz : (P.info? 5).map (·.size) = some 1)
    (b off N c0 : Nat) (t : TypeId) (L l : List UInt8) (E : List Value) (hd : a.eval d = .slice (some ⟨b, off, none⟩) N c0) (hb : RowB W b t L E) (hfit : off + l.length ≤ L.length)
    (A : Option Addr) (q c : Nat) (hs : a.eval s = .slice A q c) (hm : HasB W W.heap.size A q l) (hle : q ≤ N)
    (h : ∀ w', RowB w' b t (L.take off ++ (l ++ L.drop (off + l.length))) E → Only (fun j => j = b) W w' → ∀ v, wpList P ops Q rest (a.put o.dst v) w') : wpList P ops Q (o :: rest) a W := by
  obtain ⟨hql, hcell⟩ := hm
  by_cases h0 : q = 0
  · obtain rfl : l = [] := List.eq_nil_of_length_eq_zero (by omega)
    refine wpList_copy_nothing hgd d s _ _ ho 5 ht hsz _ _ _ _ _ _ hd hs (by show min q N = 0; omega) (h W ?_ (Only.refl _ _) _)
    simpa using hb
  · obtain ⟨g', o', rfl, _, hc⟩ := hcell (by omega)
    refine wpList_copy_own hgd d s _ _ ho 5 ht hsz b off N c0 ⟨g', o', none⟩ q c hd hs (cellsB L ++ E).toArray t hb (cellsB l) (by rw [cellsB_length]; show _ = min q N; omega) (fun j v hv => ?_) (by simp only [List.size_toArray, List.length_append, cellsB_length]; omega) (cellsB_one l) (h _ ?_ ((Only.refl _ _).setRow (S := fun j => j = b) rfl _) _)
    · obtain ⟨y, hy, rfl⟩ := cellsB_at hv
      rw [Addr.add_lit]
      exact hc j y hy
    · have e : ((cellsB L ++ E).toArray.toList.take off ++ (cellsB l ++ (cellsB L ++ E).toArray.toList.drop (off + (cellsB l).length))).toArray = (cellsB (L.take off ++ (l ++ L.drop (off + l.length))) ++ E).toArray := by
        rw [cellsB_length]
        show ((cellsB L ++ E).take off ++ (cellsB l ++ (cellsB L ++ E).drop (off + l.length))).toArray = _
        rw [List.take_append_of_le_length (by rw [cellsB_length]; omega), List.drop_append_of_le_length (by rw [cellsB_length]; omega)]
        simp [cellsB, List.map_take, List.map_drop]
      rw [e]
      exact setRow_heap W b _ _ t _ hb
/-- The sector on its way comes to rest. -/
theorem PrD.flown (h : PrD w g gd gp n m x D) (ok : m.Ok n) {k : Nat} (hk : x.sc = (k : Int)) (h1 : RowB w' gd 104 ((flat m.last).take (k * 512) ++ (x.tl ++ (flat m.last).drop (k * 512 + x.tl.length))) x.ex) (h2 : Only (fun j => j = gd) w w') : PrD w' g gd gp n m.flyM x D := by
  have key : ∃ L, m.flyM = { m with last := L } ∧ flat L = (flat m.last).take (k * 512) ++ (x.tl ++ (flat m.last).drop (k * 512 + x.tl.length)) := by
    unfold RM.flyM
    by_cases h0 : 0 ≤ m.way
    · obtain ⟨e1, e2⟩ := h.wy.2 h0
      rw [if_pos h0]
      refine ⟨_, rfl, ?_⟩
      have hkn : m.way.toNat = k := by omega
      rw [hkn, e2]
      have := ok.wy
      exact flat_torn ok.ls (by rw [ok.nl]; omega) ok.cm
    · obtain ⟨e1, e2⟩ := h.wy.1 (by omega)
      rw [if_neg h0]
      refine ⟨m.last, rfl, ?_⟩
      rw [e2]
      simp
  obtain ⟨L, e, eL⟩ := key
  rw [← eL] at h1
  rw [e]
  exact ⟨(h2.block g (Array.getElem?_eq_some_iff.1 h.blk).1 h.d1).trans h.blk, h1, ownsMap_only h.map h2 (fun e => h.d3 e.symm), h.mo, h.tr.only h2 (fun j hj e => (h.dt j hj).2.1 e), h.ar, h.wy, h.d1, h.d2, h.d3, h.dt⟩
theorem HasNo.only {T : Nat → Prop} {A : Option Addr} {q : Nat} {l : List Bool} (h : HasNo w S A q l) (ho : Only T w w') (hT : ∀ k, ¬ S k → ¬ T k) : HasNo w' S A q l :=
  ⟨h.1, fun hn => by
    obtain ⟨b, o, e, hg, hS, hc⟩ := h.2 hn
    refine ⟨b, o, e, Nat.lt_of_lt_of_le hg ho.size, hS, fun i y hi => ?_⟩
    have := hc i y hi
    unfold World.cell? at this ⊢
    rw [ho.block b hg (hT b hS)]
    exact this⟩
end
end Go.Proofs.Ytkbbpkbchniddaa
