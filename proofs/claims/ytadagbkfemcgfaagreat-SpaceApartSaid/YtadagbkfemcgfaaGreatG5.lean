/-
  Own work. The program's disk: New and Copy. The program's disk: Waiting. The program's disk: Power, reckoned. The program's disk: Power. The program's disk keeps its contracts.
-/
import Derived.Test.YtadagbkfemcgfaaGreatG4
import Derived.Test.YtadagbkfemcgfaaGreatLs5
import Derived.TacticsInMore
namespace Go.Proofs.YtadagbkfemcgfaaGreat
open Go.RowKit Go.Maps
set_option linter.unusedVariables false
set_option linter.unusedSimpArgs false

theorem cells_zer (n : Nat) : cellsB (zer n) = List.replicate n (Value.int .u8 0) := by simp [cellsB, zer]
theorem madeZ (z : Value) (k N : Nat) (hk : 0 < k) : madeCells (List.replicate k z).toArray N = (List.replicate N z).toArray := by
  refine Array.ext (by simp [madeCells]) fun i h1 h2 => ?_
  have hm : i % k < k := Nat.mod_lt _ hk
  simp [madeCells, hm]
theorem madeSec (n : Nat) : madeCells (Value.agg (cellsB (zer 512)).toArray).cells (n * 512) = (cellsB (zer (512 * n))).toArray := by
  rw [cells_zer, cells_zer, Nat.mul_comm 512 n]
  exact madeZ _ 512 _ (by omega)
theorem wpList_makeSecs {ops : Array Oper} {rest : List Oper} {o : Oper} {a : Act} {w : World} {Q : Exit → Act → World → Prop} (hg : o.guard = none) (l c : Operand) (hop : o.op = Op.makeSlice 88 l c)
    (n : Nat) (hl : a.eval l = .int .i64 (n : Int)) (hc : a.eval c = .int .i64 (n : Int)) (hn : n ≤ 4096)
    (hK : wpList Tryz.prog ops Q rest (a.put o.dst (.slice (some ⟨w.heap.size, 0, none⟩) n n)) (w.alloc (.cells (cellsB (zer (512 * n))).toArray 139))) : wpList Tryz.prog ops Q (o :: rest) a w := by
  refine wpList_plain hg fun K hK' => ?_
  have hi : (Tryz.prog.info? 139).map (fun i => (i.zero, i.size, i.bytes)) = some (some (.agg (cellsB (zer 512)).toArray), 512, 512) := by kernel_rfl
  obtain ⟨i, h2, h3, h4, h5⟩ := info_parts hi
  have hrun := run_make (P := Tryz.prog) w 88 139 i _ Tryz.underlying88 h2 h3 .i64 .i64 (n : Int) (n : Int) (by omega) (by omega) (by rw [h5]; omega) (by omega)
  rw [Int.toNat_natCast, h4, madeSec] at hrun
  unfold Oper.wp execOp
  simp only [hop, hl, hc, Sem.run_bind, Sem.run_pure, Result.andThen_ok, hrun]
  exact hK' _ _ hK
theorem alloc3 (w : World) (o1 o2 o3 : Obj) : (((w.alloc o1).alloc o2).alloc o3).heap[w.heap.size]? = some o1 ∧ (((w.alloc o1).alloc o2).alloc o3).heap[w.heap.size + 1]? = some o2 ∧ (((w.alloc o1).alloc o2).alloc o3).heap[w.heap.size + 1 + 1]? = some o3 ∧ Below w.heap.size w (((w.alloc o1).alloc o2).alloc o3) := by
  have s1 : (w.alloc o1).heap.size = w.heap.size + 1 := by simp
  have s2 : ((w.alloc o1).alloc o2).heap.size = w.heap.size + 1 + 1 := by simp
  refine ⟨?_, ?_, ?_, (((Below.refl _ w).alloc (Nat.le_refl _) _).alloc (by omega) _).alloc (by omega) _⟩
  · rw [Below.heap_alloc _ o3 _ (by omega), Below.heap_alloc _ o2 _ (by omega)]
    exact (MapKept.heap_alloc w o1).1
  · rw [Below.heap_alloc _ o3 _ (by omega), ← s1]
    exact (MapKept.heap_alloc _ o2).1
  · rw [← s2]
    exact (MapKept.heap_alloc _ o3).1
theorem builtDiskP (A : Option Addr) (n c b : Nat) : Tryz.prog.built 93 [(0, .slice A n c), (1, .map (some b))] = some #[.slice A n c, .map (some b), .bool false, .bool false, .int .i64 0, .int .i64 0, .int .i64 0, .slice none 0 0, .int .i64 0, .int .i64 0] := by kernel_rfl
theorem zeroDiskP : (Tryz.prog.info? 93).bind (·.zero) = some (.agg #[.slice none 0 0, .map none, .bool false, .bool false, .int .i64 0, .int .i64 0, .int .i64 0, .slice none 0 0, .int .i64 0, .int .i64 0]) := by kernel_rfl
theorem infoDiskP : (Tryz.prog.info? 93).map (·.size) = some 10 := by kernel_rfl

section
variable {S : Nat → Prop} {w w' : World} {g gd gp n : Nat} {m m' : RM} {x x' : PX} {D : DU}
theorem PrD.made {w : World} {g gd gp n : Nat} (hb : w.heap[g]? = some (.cells #[.slice (some ⟨gd, 0, none⟩) n n, .map (some gp), .bool false, .bool false, .int .i64 0, .int .i64 0, .int .i64 0, .slice none 0 0, .int .i64 0, .int .i64 0] 93 (0, 0)))
    (hr : RowB w gd 139 (zer (512 * n)) []) (hm : w.ownsMap Tryz.prog 3 secElem gp 0 (.map [] : DU)) (d1 : g ≠ gd) (d2 : g ≠ gp) (d3 : gd ≠ gp) : PrD w g gd gp n (newM n) ⟨0, 0, none, 0, 0, [], n, []⟩ (.map []) :=
  ⟨hb, by rw [show flat (newM n).last = zer (512 * n) from flat_rep n]; exact hr, hm, MapOf.none n _ (fun i hi => by
    show ((List.replicate n emp).getD i emp).size = 0
    rw [List.getD_eq_getElem?_getD, List.getElem?_replicate]
    split <;> rfl), OwnB.nil _ _, fun h => absurd h (by show ¬ (0 : Int) ≤ -1; omega), ⟨fun _ => ⟨rfl, rfl⟩, fun h => absurd h (by show ¬ (0 : Int) ≤ -1; omega)⟩, d1, d2, d3, fun k hk => by cases hk⟩

set_option maxRecDepth 100000 in
set_option maxHeartbeats 2000000 in
theorem pnew (w : World) (n : Nat) (h1 : 32 ≤ n) (h2 : n ≤ 4096) :
    Calls Tryz.prog 34 #[.int .i64 (n : Int)] w fun e w' => ∃ g S, e = .returned (.pointer (some ⟨g, 0, none⟩)) ∧ PD w' g S n (newM n) ∧ (∀ k, S k → w.heap.size ≤ k) ∧ Below w.heap.size w w' := by
  go_enter Tryz.func34, Tryz.ntmps34
  have hmm : ∀ W : World, (Instr.makeMap 89 none).run Tryz.prog W = .ok (.map (some W.heap.size)) (W.alloc (.map #[] 0)) := fun W => by simp [Instr.makeMap, go_sem, Result.andThen]
  go_wp2_with (at_make; refine wpList_makeSecs rfl (.tmp 9) (.tmp 9) rfl n rfl rfl h2 ?_)
  go_ret
  obtain ⟨a1, a2, a3, a4⟩ := alloc3 w (.cells (cellsB (zer (512 * n))).toArray 139) (.map #[] 0) (.cells #[.slice (some ⟨w.heap.size, 0, none⟩) n n, .map (some (w.heap.size + 1)), .bool false, .bool false, .int .i64 0, .int .i64 0, .int .i64 0, .slice none 0 0, .int .i64 0, .int .i64 0] 93)
  have hr : RowB (((w.alloc (.cells (cellsB (zer (512 * n))).toArray 139)).alloc (.map #[] 0)).alloc (.cells #[.slice (some ⟨w.heap.size, 0, none⟩) n n, .map (some (w.heap.size + 1)), .bool false, .bool false, .int .i64 0, .int .i64 0, .int .i64 0, .slice none 0 0, .int .i64 0, .int .i64 0] 93)) w.heap.size 139 (zer (512 * n)) [] := by
    unfold RowB
    rw [List.append_nil]
    exact a1
  have hp := PrD.made a3 hr ⟨#[], 0, a2, ⟨by simp, MapKept.stamped_empty 0, by simp⟩, Nat.le_refl _, rfl⟩ (by omega) (by omega) (by omega)
  refine ⟨_, _, rfl, ⟨_, _, _, _, hp, rfl⟩, ?_, a4⟩
  rintro k (rfl | rfl | rfl | hk)
  · omega
  · omega
  · omega
  · cases hk
set_option maxRecDepth 100000 in
theorem pnew_no (w : World) (i : Int) (h : i < 32 ∨ 4096 < i) (hi : -9223372036854775808 ≤ i ∧ i ≤ 9223372036854775807) :
    Calls Tryz.prog 34 #[.int .i64 i] w fun e w' => e = .returned (.pointer none) ∧ Below w.heap.size w w' := by
  obtain ⟨i1, i2⟩ := hi
  by_cases h1 : i < 32
  · go_enter Tryz.func34, Tryz.ntmps34
    go_wp2_with fail
    go_ret
    exact ⟨rfl, Below.refl _ _⟩
  · have h2 : 4096 < i := by omega
    clear h
    go_enter Tryz.func34, Tryz.ntmps34
    go_wp2_with fail
    go_ret
    exact ⟨rfl, Below.refl _ _⟩
end
end Go.Proofs.YtadagbkfemcgfaaGreat
namespace Go.Proofs.YtadagbkfemcgfaaGreat
open Go.RowKit Go.Maps Go.Sort Go.Shelf
set_option linter.unusedVariables false
set_option linter.unusedSimpArgs false

/-- slices.Sort's two contracts, at the fence that asks nothing. -/
theorem sorts40 (m : Nat) : AnyZI.SortsIn Tryz.prog sorted40_ren Fence.wide m :=
  ⟨fun blk off cap ss W hH hblk hsz => callsIn_wide.2 (AnyM.slices_Sort_int sort49 blk off cap ss W hH hblk hsz),
   fun p cap W => callsIn_wide.2 (AnyM.slices_Sort_int_none sort49 p cap W)⟩

section
variable {w : World} {g gd gp n : Nat} {m : RM} {x : PX} {D : DU}
end
end Go.Proofs.YtadagbkfemcgfaaGreat
namespace Go.Proofs.YtadagbkfemcgfaaGreat
open Go.RowKit Go.Maps
set_option linter.unusedVariables false
set_option linter.unusedSimpArgs false

theorem RM.wtK_idx (m : RM) (n i : Nat) (hi : i < n) (h : (m.wait.getD i emp).size ≠ 0) : (m.wtK n)[(m.wtK i).length]? = some i := by
  induction n with
  | zero => omega
  | succ n ih =>
    rw [RM.wtK_succ]
    by_cases e : i = n
    · subst e
      rw [if_neg h]
      simp
    · have := ih (by omega)
      split
      · exact this
      · rw [List.getElem?_append_left (List.getElem?_eq_some_iff.1 this).1]
        exact this
theorem RM.wtK_get (m : RM) (n j i : Nat) (h : (m.wtK n)[j]? = some i) : i < n ∧ (m.wait.getD i emp).size ≠ 0 ∧ (m.wtK i).length = j := by
  induction n with
  | zero => simp [RM.wtK] at h
  | succ n ih =>
    rw [RM.wtK_succ] at h
    split at h
    · obtain ⟨h1, h2, h3⟩ := ih h
      exact ⟨by omega, h2, h3⟩
    · rename_i hz
      by_cases hj : j < (m.wtK n).length
      · rw [List.getElem?_append_left hj] at h
        obtain ⟨h1, h2, h3⟩ := ih h
        exact ⟨by omega, h2, h3⟩
      · rw [List.getElem?_append_right (by omega)] at h
        obtain ⟨h1, h2⟩ := List.getElem?_eq_some_iff.1 h
        simp at h1 h2
        subst h2
        exact ⟨by omega, hz, by omega⟩
/-- Which sectors have been kept behind j of the waiting ones. -/
def pwF (m : RM) (keep : List Bool) (j i : Nat) : Bool := pendB m i && (decide ((m.wtK i).length < j) && keep.getD (m.wtK i).length false)
theorem pwF_pend (m : RM) (keep : List Bool) (j i : Nat) (h : pwF m keep j i = true) : pendB m i = true := by
  unfold pwF at h
  rw [Bool.and_eq_true] at h
  exact h.1
theorem pw_zero (m : RM) (n : Nat) (ok : m.Ok n) (keep : List Bool) : mix m n (pwF m keep 0) = m.last :=
  mix_none m n ok _ fun i _ => by
    unfold pwF
    simp
theorem pwF_other (m : RM) (n : Nat) (keep : List Bool) (j i : Nat) (hj : (m.wtK n)[j]? = some i) (i' : Nat) (hi' : i' < n) (hne : i' ≠ i) : pwF m keep (j + 1) i' = pwF m keep j i' := by
  unfold pwF
  by_cases hp : pendB m i' = true
  · have hne2 : (m.wtK i').length ≠ j := fun e => by
      have := m.wtK_idx n i' hi' (of_decide_eq_true hp)
      rw [e, hj] at this
      injection this with this
      exact hne this.symm
    have : decide ((m.wtK i').length < j + 1) = decide ((m.wtK i').length < j) := by
      rw [Bool.eq_iff_iff, decide_eq_true_iff, decide_eq_true_iff]; omega
    rw [this]
  · rw [Bool.not_eq_true] at hp
    rw [hp]
    rfl
theorem pw_keep (m : RM) (n : Nat) (keep : List Bool) (j i : Nat) (hj : (m.wtK n)[j]? = some i) (hk : keep.getD j false = true) : mix m n (pwF m keep (j + 1)) = (mix m n (pwF m keep j)).set i (m.wait.getD i emp) := by
  obtain ⟨h1, h2, h3⟩ := m.wtK_get n j i hj
  refine mix_set m n _ _ i h1 ?_ (pwF_other m n keep j i hj)
  unfold pwF
  have hp : pendB m i = true := decide_eq_true h2
  rw [h3, hk, hp]
  simp
theorem pw_drop (m : RM) (n : Nat) (keep : List Bool) (j i : Nat) (hj : (m.wtK n)[j]? = some i) (hk : keep.getD j false = false) : mix m n (pwF m keep (j + 1)) = mix m n (pwF m keep j) := by
  obtain ⟨h1, h2, h3⟩ := m.wtK_get n j i hj
  refine mix_same m n _ _ fun i' hi' => ?_
  by_cases e : i' = i
  · subst e
    unfold pwF
    rw [h3, hk]
    simp
  · exact pwF_other m n keep j i hj i' hi' e
/-- Behind the loop. -/
theorem pw_end (m : RM) (n : Nat) (ok : m.Ok n) (keep : List Bool) : ∃ W, (m.pwK keep n).1 = { m with last := mix m n (pwF m keep (m.wtK n).length), wait := W } ∧ ∀ i, i < n → (W.getD i emp).size = 0 := by
  obtain ⟨L, W, e⟩ := m.pwK_form keep n
  have okf := ok.pwK keep n
  rw [e] at okf
  refine ⟨W, ?_, fun i hi => ?_⟩
  · rw [e]
    have : L = mix m n (pwF m keep (m.wtK n).length) := getD_ext okf.nl (mix_len _ _ _) fun i hi => by
      have h1 := (m.pwK_at n ok keep n i (Nat.le_refl _)).1
      rw [e] at h1
      rw [mix_at _ _ _ hi]
      refine h1.trans ?_
      unfold pwF
      by_cases h0 : (m.wait.getD i emp).size = 0
      · have hp : pendB m i = false := decide_eq_false (fun hh => hh h0)
        rw [if_neg (fun hh => hh.2.1 h0), hp]; rfl
      · have hp : pendB m i = true := decide_eq_true h0
        have hl : decide ((m.wtK i).length < (m.wtK n).length) = true := decide_eq_true (List.getElem?_eq_some_iff.1 (m.wtK_idx n i hi h0)).1
        rw [hp, hl]
        by_cases hk : keep.getD (m.wtK i).length false = true
        · rw [if_pos ⟨hi, h0, hk⟩, hk]; rfl
        · rw [if_neg (fun hh => hk hh.2.2)]
          rw [Bool.not_eq_true] at hk
          rw [hk]; rfl
    rw [this]
  · have h2 := (m.pwK_at n ok keep n i (Nat.le_refl _)).2.1
    rw [e] at h2
    have h3 : W.getD i emp = if i < n ∧ (m.wt i).size ≠ 0 then emp else m.wt i := h2
    rw [h3]
    split
    · rfl
    · rename_i hh
      by_cases h0 : (m.wt i).size = 0
      · exact h0
      · exact absurd ⟨hi, h0⟩ hh
/-! ### The sector on its way -/
theorem flat_split {l : List ByteArray} (hl : ∀ s ∈ l, s.size = 512) {k : Nat} (hk : k < l.length) : flat l = (flat l).take (512 * k) ++ lst (l.getD k emp) ++ (flat l).drop (512 * k + 512) := by
  have h := flat_set hl hk (l.getD k emp)
  have e : l.set k (l.getD k emp) = l := by
    rw [List.getD_eq_getElem?_getD, List.getElem?_eq_getElem hk]
    exact List.set_getElem_self hk
  rw [e] at h
  exact h
theorem lst_torn (c s : ByteArray) : lst (torn c s) = lst c ++ (lst s).drop (lst c).length := by
  unfold torn lst
  rw [ByteArray.data_append, Array.toList_append, ByteArray.data_extract, Array.toList_extract]
  congr 1
  rw [List.extract_eq_take_drop]
  exact List.take_of_length_le (by rw [List.length_drop]; exact Nat.le_refl _)
theorem flat_torn {l : List ByteArray} (hl : ∀ s ∈ l, s.size = 512) {k : Nat} (hk : k < l.length) {c : ByteArray} (hc : c.size ≤ 512) :
    flat (l.set k (torn c (l.getD k emp))) = (flat l).take (k * 512) ++ (lst c ++ (flat l).drop (k * 512 + (lst c).length)) := by
  have hs : (l.getD k emp).size = 512 := hl _ (by rw [List.getD_eq_getElem?_getD, List.getElem?_eq_getElem hk]; exact List.getElem_mem hk)
  have hcl : (lst c).length ≤ 512 := hc
  have hll : (lst (l.getD k emp)).length = 512 := hs
  rw [flat_set hl hk, lst_torn, Nat.mul_comm k 512]
  have h1 : (flat l).drop (512 * k + (lst c).length) = (lst (l.getD k emp)).drop (lst c).length ++ (flat l).drop (512 * k + 512) := by
    conv => lhs; rw [flat_split hl hk]
    have ht : ((flat l).take (512 * k)).length = 512 * k := by
      rw [List.length_take, flat_len hl]; omega
    rw [List.append_assoc, List.drop_append, List.drop_eq_nil_of_le (by rw [ht]; omega), List.nil_append, ht, show 512 * k + (lst c).length - 512 * k = (lst c).length by omega, List.drop_append]
    rw [show (lst c).length - (lst (l.getD k emp)).length = 0 by omega, List.drop_zero]
  rw [h1]
  simp [List.append_assoc]

section
variable {S : Nat → Prop} {w w' : World} {g gd gp n : Nat} {m m' : RM} {x x' : PX} {D : DU}
/-- copy into a row of bytes, at a place of it. -/
theorem wpList_copyD {P : Program} {ops : Array Oper} {rest : List Oper} {o : Oper} {a : Act} {W : World} {Q : Exit → Act → World → Prop} (hgd : o.guard = none) (d s : Operand)
    (ho : o.op = .call { callee := .builtin .copy, args := #[d, s], argTypes := #[65, 65] }) (ht : P.underlying 65 = some (.slice 5)) (hsz : (P.info? 5).map (·.size) = some 1)
    (b off N c0 : Nat) (t : TypeId) (L l : List UInt8) (E : List Value) (hd : a.eval d = .slice (some ⟨b, off, none⟩) N c0) (hb : RowB W b t L E) (hfit : off + l.length ≤ L.length)
    (A : Option Addr) (q c : Nat) (hs : a.eval s = .slice A q c) (hm : HasB W W.heap.size A q l) (hle : q ≤ N)
    (h : ∀ w', RowB w' b t (L.take off ++ (l ++ L.drop (off + l.length))) E → Only (fun j => j = b) W w' → ∀ v, wpList P ops Q rest (a.put o.dst v) w') : wpList P ops Q (o :: rest) a W := by
  obtain ⟨hql, hcell⟩ := hm
  by_cases h0 : q = 0
  · obtain rfl : l = [] := List.eq_nil_of_length_eq_zero (by omega)
    refine wpList_copy_nothing hgd d s _ _ ho 5 ht hsz _ _ _ _ _ _ hd hs (by show min q N = 0; omega) (h W ?_ (Only.refl _ _) _)
    simpa using hb
  · obtain ⟨g', o', rfl, _, hc⟩ := hcell (by omega)
    refine wpList_copy_own hgd d s _ _ ho 5 ht hsz b off N c0 ⟨g', o', none⟩ q c hd hs (cellsB L ++ E).toArray t hb (cellsB l) (by rw [cellsB_length]; show _ = min q N; omega) (fun j v hv => ?_) (by simp only [List.size_toArray, List.length_append, cellsB_length]; omega) (cellsB_one l) (h _ ?_ ((Only.refl _ _).setRow (S := fun j => j = b) rfl _) _)
    · obtain ⟨y, hy, rfl⟩ := cellsB_at hv
      rw [Addr.add_lit]
      exact hc j y hy
    · have e : ((cellsB L ++ E).toArray.toList.take off ++ (cellsB l ++ (cellsB L ++ E).toArray.toList.drop (off + (cellsB l).length))).toArray = (cellsB (L.take off ++ (l ++ L.drop (off + l.length))) ++ E).toArray := by
        rw [cellsB_length]
        show ((cellsB L ++ E).take off ++ (cellsB l ++ (cellsB L ++ E).drop (off + l.length))).toArray = _
        rw [List.take_append_of_le_length (by rw [cellsB_length]; omega), List.drop_append_of_le_length (by rw [cellsB_length]; omega)]
        simp [cellsB, List.map_take, List.map_drop]
      rw [e]
      exact setRow_heap W b _ _ t _ hb
/-- The sector on its way comes to rest. -/
theorem PrD.flown (h : PrD w g gd gp n m x D) (ok : m.Ok n) {k : Nat} (hk : x.sc = (k : Int)) (h1 : RowB w' gd 139 ((flat m.last).take (k * 512) ++ (x.tl ++ (flat m.last).drop (k * 512 + x.tl.length))) x.ex) (h2 : Only (fun j => j = gd) w w') : PrD w' g gd gp n m.flyM x D := by
  have key : ∃ L, m.flyM = { m with last := L } ∧ flat L = (flat m.last).take (k * 512) ++ (x.tl ++ (flat m.last).drop (k * 512 + x.tl.length)) := by
    unfold RM.flyM
    by_cases h0 : 0 ≤ m.way
    · obtain ⟨e1, e2⟩ := h.wy.2 h0
      rw [if_pos h0]
      refine ⟨_, rfl, ?_⟩
      have hkn : m.way.toNat = k := by omega
      rw [hkn, e2]
      have := ok.wy
      exact flat_torn ok.ls (by rw [ok.nl]; omega) ok.cm
    · obtain ⟨e1, e2⟩ := h.wy.1 (by omega)
      rw [if_neg h0]
      refine ⟨m.last, rfl, ?_⟩
      rw [e2]
      simp
  obtain ⟨L, e, eL⟩ := key
  rw [← eL] at h1
  rw [e]
  exact ⟨(h2.block g (Array.getElem?_eq_some_iff.1 h.blk).1 h.d1).trans h.blk, h1, ownsMap_only h.map h2 (fun e => h.d3 e.symm), h.mo, h.tr.only h2 (fun j hj e => (h.dt j hj).2.1 e), h.ar, h.wy, h.d1, h.d2, h.d3, h.dt⟩
theorem HasNo.only {T : Nat → Prop} {A : Option Addr} {q : Nat} {l : List Bool} (h : HasNo w S A q l) (ho : Only T w w') (hT : ∀ k, ¬ S k → ¬ T k) : HasNo w' S A q l :=
  ⟨h.1, fun hn => by
    obtain ⟨b, o, e, hg, hS, hc⟩ := h.2 hn
    refine ⟨b, o, e, Nat.lt_of_lt_of_le hg ho.size, hS, fun i y hi => ?_⟩
    have := hc i y hi
    unfold World.cell? at this ⊢
    rw [ho.block b hg (hT b hS)]
    exact this⟩
end
end Go.Proofs.YtadagbkfemcgfaaGreat
namespace Go.Proofs.YtadagbkfemcgfaaGreat
open Go.RowKit Go.Maps
set_option linter.unusedVariables false
set_option linter.unusedSimpArgs false

section
variable {S : Nat → Prop} {w w' : World} {g gd gp n : Nat} {m m' : RM} {x x' : PX} {D : DU}
/-- Power's loop. -/
structure PwS (w wr : World) (g gd gp n : Nat) (m : RM) (x : PX) (D : DU) (B : Option Addr) (p d : Nat) (A : Option Addr) (q : Nat) (keep : List Bool) (j : Nat) : Prop where
  dk : PrD wr g gd gp n { m with last := mix m n (pwF m keep j) } x D
  own : OwnV 3 wr w.heap.size (.slice B p d) (ints (m.wtK n))
  kp : HasNo wr (PrB g gd gp x) A q keep
  o : Only (PrB g gd gp x) w wr
theorem PwS.drew {wr : World} {B : Option Addr} {p d : Nat} {A : Option Addr} {q : Nat} {keep : List Bool} {j : Nat} (h : PwS w wr g gd gp n m x D B p d A q keep j) : PwS w wr.drew g gd gp n m x D B p d A q keep j := ⟨h.dk.drew, h.own.drew, h.kp, h.o.drew⟩
theorem sizeU8p : (Tryz.prog.info? 5).map (·.size) = some 1 := by kernel_rfl
theorem tear0_ones : ∀ v ∈ (#[Value.int .i64 0, .slice none 0 0] : Array Value).toList, v.oneCell' = true := tear_ones _ _ _ _
theorem builtTear0 : Tryz.prog.built 91 [] = some #[.int .i64 0, .slice none 0 0] := by kernel_rfl
/-- The power is back. -/
theorem PrD.back (h : PrD w g gd gp n m x D) {w' : World} (ho : Only (fun j => j = g) w w') (hb : w'.heap[g]? = some (.cells (pdC gd gp n { m with off := false, arms := -1, way := -1, powers := m.powers + 1 } { x with sc := 0, TA := none, tn := 0, tc := 0, tl := [] }) 93 (0, 0))) :
    PrD w' g gd gp n { m with off := false, arms := -1, way := -1, powers := m.powers + 1 } { x with sc := 0, TA := none, tn := 0, tc := 0, tl := [] } D :=
  ⟨hb, (ho.block gd h.row.lt (fun e => h.d1 e.symm)).trans h.row, ownsMap_only h.map ho (fun e => h.d2 e.symm), h.mo, OwnB.nil _ _, fun h0 => absurd h0 (by show ¬ (0 : Int) ≤ -1; omega), ⟨fun _ => ⟨rfl, rfl⟩, fun h0 => absurd h0 (by show ¬ (0 : Int) ≤ -1; omega)⟩, h.d1, h.d2, h.d3, fun k hk => by cases hk⟩
set_option maxRecDepth 100000 in
theorem lookS_run {W : World} (h : PrD W g gd gp n m x D) (ok : m.Ok n) {k : Nat} (hk : k < n) : (Instr.lookup 89 (.map (some gp)) (.int .i64 (k : Int)) false).run Tryz.prog W = .ok (.agg (cellsB (pendL m k)).toArray) W := by
  have n2 := ok.n2
  obtain ⟨v, ps, hrun, hv⟩ := h.map.lookup intK Tryz.underlying89 (zeroSecRun W) (secElem_mk (zer_len 512)) (keyI (i := k) (by omega))
  obtain ⟨l, rfl, hl, e⟩ := secElem_inv hv
  rw [Prod.mk.injEq] at e
  have e1 := e.1
  have el : l = pendL m k := by
    unfold pendL
    by_cases h0 : (m.wait.getD k emp).size = 0
    · rw [if_pos h0]
      rw [h.mo.no hk h0] at e1
      injection e1 with e1
      injection e1 with e1
      exact e1.symm
    · rw [if_neg h0]
      rw [h.mo.at_ k hk h0] at e1
      injection e1 with e1
      injection e1 with e1
      exact e1.symm
  subst el
  exact hrun
theorem stillLk {P : Program} {o : Oper} {a : Act} {w : World} {K : Act → Prop} {ty : TypeId} {mo xo : Operand} (ho : o.op = .lookup ty mo xo false) {M X : Value} (hm : a.eval mo = M) (hx : a.eval xo = X) {v : Value} (hr : (Instr.lookup ty M X false).run P w = .ok v w) (h : K (a.put o.dst v)) : o.still P a w K := by
  unfold Oper.still execOp
  simp only [ho, hm, hx, Sem.run_bind, Sem.run_pure, Result.andThen_ok, hr]
  exact ⟨rfl, h⟩

end
end Go.Proofs.YtadagbkfemcgfaaGreat
namespace Go.Proofs.YtadagbkfemcgfaaGreat
open Go.RowKit Go.Maps
set_option linter.unusedVariables false
set_option linter.unusedSimpArgs false

theorem retV_below {w : World} {v : Value} {f : FuncId} {args : Array Value} (h : Calls Tryz.prog f args w (RetV w v)) : Calls Tryz.prog f args w fun e w' => e = .returned v ∧ Below w.heap.size w w' :=
  h.mono fun e w' ⟨h1, h2⟩ => ⟨h1, h2 ▸ Below.refl _ _⟩
theorem pwrite_any {w : World} {g n : Nat} {S : Nat → Prop} {m : RM} (i : Int) (A : Option Addr) (q c : Nat) (l : List UInt8) (h : PD w g S n m) (ok : m.Ok n) (hw : m.wrote < 1073741824) (hi : -9223372036854775808 ≤ i ∧ i ≤ 9223372036854775807) (hB : HasN w S A q l) (hqc : q ≤ c) (hq : q ≤ 1073741824) :
    Calls Tryz.prog 72 #[.pointer (some ⟨g, 0, none⟩), .int .i64 i, .slice A q c] w (Left2 PD w g S n (.int .i64 (m.writeE n i (strB l))) (m.writeM n i (strB l))) := by
  obtain ⟨gd, gp, x, D, p, rfl⟩ := h
  exact pwrite i A q c l p ok hw hi hB hqc hq
theorem pflush_any {w : World} {g n : Nat} {S : Nat → Prop} {m : RM} (h : PD w g S n m) (ok : m.Ok n) :
    Calls Tryz.prog 71 #[.pointer (some ⟨g, 0, none⟩)] w (Left2 PD w g S n (.int .i64 m.flushE) (m.flushM n)) := by
  obtain ⟨gd, gp, x, D, p, rfl⟩ := h
  exact pflush p ok
/-- The program's disk. -/
def theDK : DK where
  D := PD
  lt := by
    rintro w g S n m ⟨gd, gp, x, D, p, rfl⟩
    exact p.lt
  only := by
    rintro w w' g S T n m ⟨gd, gp, x, D, p, rfl⟩ ho hT
    exact ⟨gd, gp, x, D, p.only ho hT, rfl⟩
  len_q := by
    rintro w g S n m ⟨gd, gp, x, D, p, rfl⟩ ok
    exact plen p ok
  lives_q := by
    rintro w g S n m ⟨gd, gp, x, D, p, rfl⟩ ok
    exact plives p ok
  new_any := pnew
  new_no := pnew_no
  len_any := by
    rintro w g S n m ⟨gd, gp, x, D, p, rfl⟩ ok
    exact retV_below (plen p ok)
  lives_any := by
    rintro w g S n m ⟨gd, gp, x, D, p, rfl⟩ ok
    exact retV_below (plives p ok)
  read_any := by
    rintro w g S n m i ⟨gd, gp, x, D, p, rfl⟩ ok hi
    exact pread i p ok hi
  write_any := pwrite_any
  flush_any := pflush_any
end Go.Proofs.YtadagbkfemcgfaaGreat
