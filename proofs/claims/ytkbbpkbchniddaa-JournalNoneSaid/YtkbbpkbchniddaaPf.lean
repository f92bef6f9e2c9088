/-
  Own work. The program's disk: what its loops over pending sectors leave; clear of the map; Flush's data.
-/
import Derived.Test.YtkbbpkbchniddaaPw
namespace Go.Proofs.Ytkbbpkbchniddaa
open Go.RowKit Go.Maps Go.ChangeMaps Go.MapKept
set_option linter.unusedVariables false
set_option linter.unusedSimpArgs false

theorem RM.flK_form (m : RM) (k : Nat) : ∃ L W, m.flK k = { m with last := L, wait := W } := by
  induction k with
  | zero => exact ⟨m.last, m.wait, rfl⟩
  | succ k ih =>
    obtain ⟨L, W, e⟩ := ih
    rw [RM.flK_succ, e]
    unfold RM.flI
    split
    · exact ⟨L, W, rfl⟩
    · exact ⟨_, _, rfl⟩
theorem RM.pwK_form (m : RM) (keep : List Bool) (k : Nat) : ∃ L W, (m.pwK keep k).1 = { m with last := L, wait := W } := by
  induction k with
  | zero => exact ⟨m.last, m.wait, rfl⟩
  | succ k ih =>
    obtain ⟨L, W, e⟩ := ih
    rw [RM.pwK_succ]
    unfold RM.pwI
    rw [e]
    split
    · exact ⟨L, W, e⟩
    · exact ⟨_, _, rfl⟩
theorem getD_ext {l l' : List ByteArray} {n : Nat} (h1 : l.length = n) (h2 : l'.length = n) (h : ∀ i, i < n → l.getD i emp = l'.getD i emp) : l = l' := by
  refine List.ext_getElem? fun i => ?_
  by_cases hi : i < n
  · have := h i hi
    rw [List.getD_eq_getElem?_getD, List.getD_eq_getElem?_getD, List.getElem?_eq_getElem (by omega), List.getElem?_eq_getElem (by omega)] at this
    rw [List.getElem?_eq_getElem (by omega), List.getElem?_eq_getElem (by omega)]
    exact congrArg some this
  · rw [List.getElem?_eq_none (by omega), List.getElem?_eq_none (by omega)]
/-- The durable sectors of which some (f) have been written over by the pending ones. -/
def mix (m : RM) (n : Nat) (f : Nat → Bool) : List ByteArray := (List.range n).map fun i => if f i = true then m.wait.getD i emp else m.last.getD i emp
theorem mix_len (m : RM) (n : Nat) (f : Nat → Bool) : (mix m n f).length = n := by simp [mix]
theorem mix_at (m : RM) (n : Nat) (f : Nat → Bool) {i : Nat} (hi : i < n) : (mix m n f).getD i emp = if f i = true then m.wait.getD i emp else m.last.getD i emp := by
  rw [List.getD_eq_getElem?_getD]
  simp [mix, hi]
theorem mix_none (m : RM) (n : Nat) (ok : m.Ok n) (f : Nat → Bool) (h : ∀ i, i < n → f i = false) : mix m n f = m.last :=
  getD_ext (mix_len m n f) ok.nl fun i hi => by rw [mix_at m n f hi, h i hi]; rfl
theorem mix_set (m : RM) (n : Nat) (f f' : Nat → Bool) (k : Nat) (hk : k < n) (h1 : f' k = true) (h2 : ∀ i, i < n → i ≠ k → f' i = f i) : mix m n f' = (mix m n f).set k (m.wait.getD k emp) :=
  getD_ext (mix_len m n f') (by rw [List.length_set]; exact mix_len m n f) fun i hi => by
    rw [getD_set _ _ _ _ (by rw [mix_len]; exact hk), mix_at m n f' hi]
    by_cases e : k = i
    · subst e
      rw [h1, if_pos rfl, if_pos rfl]
    · rw [if_neg e, mix_at m n f hi, h2 i hi (fun e' => e e'.symm)]
theorem mix_same (m : RM) (n : Nat) (f f' : Nat → Bool) (h : ∀ i, i < n → f' i = f i) : mix m n f' = mix m n f :=
  getD_ext (mix_len m n f') (mix_len m n f) fun i hi => by rw [mix_at m n f' hi, mix_at m n f hi, h i hi]
theorem mix_ok (m : RM) (n : Nat) (ok : m.Ok n) (f : Nat → Bool) (h : ∀ i, i < n → f i = true → pendB m i = true) : ∀ s ∈ mix m n f, s.size = 512 := by
  intro s hs
  unfold mix at hs
  rw [List.mem_map] at hs
  obtain ⟨i, hi, rfl⟩ := hs
  have hi := List.mem_range.1 hi
  split
  · rename_i hf
    have := h i hi hf
    unfold pendB at this
    rw [decide_eq_true_iff] at this
    have := ok.wsz hi
    omega
  · exact ok.lsz hi
theorem RM.Ok.mixed {m : RM} {n : Nat} (ok : m.Ok n) {f : Nat → Bool} (h : ∀ i, i < n → f i = true → pendB m i = true) : ({ m with last := mix m n f } : RM).Ok n :=
  ⟨mix_len m n f, ok.nw, ok.n1, ok.n2, mix_ok m n ok f h, ok.ws, ok.pt, ok.ar, ok.wy, ok.cm, ok.wr, ok.pw⟩
/-- Flush's end. -/
theorem flush_end (m : RM) (n : Nat) (ok : m.Ok n) : ∃ W, m.flK n = { m with last := mix m n (pendB m), wait := W } ∧ ∀ i, i < n → (W.getD i emp).size = 0 := by
  obtain ⟨L, W, e⟩ := m.flK_form n
  have okf := ok.flK n
  rw [e] at okf
  refine ⟨W, ?_, fun i hi => ?_⟩
  · rw [e]
    have : L = mix m n (pendB m) := getD_ext okf.nl (mix_len _ _ _) fun i hi => by
      have h1 := (m.flK_at n ok n i (Nat.le_refl _)).1
      rw [e] at h1
      rw [mix_at _ _ _ hi]
      refine h1.trans ?_
      by_cases h0 : (m.wait.getD i emp).size = 0
      · have hp : pendB m i = false := decide_eq_false (fun hh => hh h0)
        rw [if_neg (fun hh => hh.2 h0), hp]; rfl
      · have hp : pendB m i = true := decide_eq_true h0
        rw [if_pos ⟨hi, h0⟩, hp]; rfl
    rw [this]
  · have h2 := (m.flK_at n ok n i (Nat.le_refl _)).2
    rw [e] at h2
    have h3 : W.getD i emp = if i < n ∧ (m.wt i).size ≠ 0 then emp else m.wt i := h2
    rw [h3]
    split
    · rfl
    · rename_i hh
      by_cases h0 : (m.wt i).size = 0
      · exact h0
      · exact absurd ⟨hi, h0⟩ hh

theorem stillL2 {P : Program} {o : Oper} {a : Act} {w : World} {K : Act → Prop} {ty : TypeId} {x : Operand} (ho : o.op = .load ty x) {ad : Addr} (hy : a.eval x = .pointer (some ad)) {v : Value} (hr : (loadVar ty ad).run P w = .ok v w) (h : K (a.put o.dst v)) : o.still P a w K :=
  stillL ho hy (by simp only [Instr.loadAt, Instr.sureAddr, Sem.run_bind, Sem.run_pure, Result.andThen_ok, hr]) h
section
variable {S : Nat → Prop} {w w' : World} {g gd gp n : Nat} {m m' : RM} {x x' : PX} {D : DU}
/-- The row with one sector written over. -/
def secRow (l : List ByteArray) (E : List Value) (k : Nat) (s : List UInt8) : Array Value :=
  ((cellsB (flat l) ++ E).toArray.toList.take (k * 512) ++ (cellsB s).toArray.toList ++ (cellsB (flat l) ++ E).toArray.toList.drop (k * 512 + (cellsB s).toArray.size)).toArray
theorem secRow_eq {l : List ByteArray} (E : List Value) (hl : ∀ s ∈ l, s.size = 512) {k : Nat} (hk : k < l.length) {s : ByteArray} (hs : s.size = 512) : secRow l E k (lst s) = (cellsB (flat (l.set k s)) ++ E).toArray := by
  unfold secRow
  have hf : (cellsB (flat l)).length = 512 * l.length := by rw [cellsB_length, flat_len hl]
  rw [flat_set hl hk s, cellsB_size, lst_len, hs, Nat.mul_comm k 512]
  rw [List.take_append_of_le_length (by rw [hf]; omega), List.drop_append_of_le_length (by rw [hf]; omega)]
  simp [cellsB, List.map_take, List.map_drop]
theorem PrD.setSec (h : PrD w g gd gp n m x D) (ok : m.Ok n) {k : Nat} (hk : k < n) {s : ByteArray} (hs : s.size = 512) : PrD (w.setRow gd (secRow m.last x.ex k (lst s))) g gd gp n { m with last := m.last.set k s } x D := by
  have o2 : Only (fun j => j = gd) w (w.setRow gd (secRow m.last x.ex k (lst s))) := (Only.refl _ _).setRow (S := fun j => j = gd) rfl _
  refine ⟨(o2.block g (Array.getElem?_eq_some_iff.1 h.blk).1 h.d1).trans h.blk, ?_, ownsMap_only h.map o2 (fun e => h.d3 e.symm), h.mo, h.tr.only o2 (fun j hj e => (h.dt j hj).2.1 e), h.ar, h.wy, h.d1, h.d2, h.d3, h.dt⟩
  rw [secRow_eq x.ex ok.ls (by rw [ok.nl]; exact hk) hs]
  exact setRow_heap w gd _ _ 104 _ h.row
/-- The map is cleared. -/
theorem wpList_clearS {ops : Array Oper} {rest : List Oper} {o : Oper} {a : Act} {W : World} {Q : Exit → Act → World → Prop} (hg : o.guard = none) (mo : Operand) (ho : o.op = .call { callee := .builtin .clear, args := #[mo], argTypes := #[89] })
    (hm : a.eval mo = .map (some gp)) (c : Nat) (h : W.ownsMap Try.prog 3 secElem gp c D)
    (hK : ∀ w', w'.ownsMap Try.prog 3 secElem gp 0 (.map [] : DU) → Only (fun j => j = gp) W w' → wpList Try.prog ops Q rest (a.put o.dst (.tuple #[])) w') : wpList Try.prog ops Q (o :: rest) a W := by
  refine wpList_plain hg fun K hKK => ?_
  obtain ⟨es, clock, hb, F, hs, hD⟩ := h
  have hrun : (Builtin.clear_ #[89] o.type #[.map (some gp)]).run Try.prog W = .ok (.tuple #[]) (setBlock W gp (.map #[] clock)) := by
    simp [Builtin.clear_, run_underlying Try.underlying89, MapKept.run_getObj_map hb, MapKept.run_setObj_map _ hb, Result.andThen]
    rfl
  unfold Oper.wp execOp
  simp only [ho, resolve, invoke, builtin, Sem.run_bind, Sem.run_pure, Result.andThen_ok, List.map_toArray, List.map_cons, List.map_nil, hm, hrun]
  refine hKK _ _ (hK _ ⟨#[], clock, heap_setBlock_same hb _, ⟨by simp, MapKept.stamped_empty clock, by simp⟩, Nat.le_refl _, rfl⟩ ⟨rfl, rfl, rfl, by simp [setBlock], fun k _ hk => heap_setBlock_other hb _ hk⟩)
/-- .. and the disk's pending sectors with it. -/
theorem PrD.cleared (h : PrD w g gd gp n m x D) (h1 : w'.ownsMap Try.prog 3 secElem gp 0 (.map [] : DU)) (ho : Only (fun j => j = gp) w w') {W : List ByteArray} (hW : ∀ i, i < n → (W.getD i emp).size = 0) : PrD w' g gd gp n { m with wait := W } x (.map []) :=
  ⟨(ho.block g (Array.getElem?_eq_some_iff.1 h.blk).1 h.d2).trans h.blk, (ho.block gd h.row.lt h.d3).trans h.row, h1.mono (Nat.zero_le _), MapOf.none n W hW, h.tr.only ho (fun j hj e => (h.dt j hj).2.2 e), h.ar, h.wy, h.d1, h.d2, h.d3, h.dt⟩
end
end Go.Proofs.Ytkbbpkbchniddaa
