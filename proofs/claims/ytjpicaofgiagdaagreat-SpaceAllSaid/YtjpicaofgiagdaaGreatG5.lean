/-
  Own work. The program's disk: New and Copy. The program's disk: Waiting. The program's disk: Power, reckoned. The program's disk: Power. The program's disk keeps its contracts.
-/
import Derived.Test.YtjpicaofgiagdaaGreatG4
import Derived.Test.YtjpicaofgiagdaaGreatLs5
import Derived.TacticsInMore
namespace Go.Proofs.YtjpicaofgiagdaaGreat
open Go.RowKit Go.Maps
set_option linter.unusedVariables false
set_option linter.unusedSimpArgs false

theorem cells_zer (n : Nat) : cellsB (zer n) = List.replicate n (Value.int .u8 0) := by simp [cellsB, zer]
theorem madeZ (z : Value) (k N : Nat) (hk : 0 < k) : madeCells (List.replicate k z).toArray N = (List.replicate N z).toArray := by
  refine Array.ext (by simp [madeCells]) fun i h1 h2 => ?_
  have hm : i % k < k := Nat.mod_lt _ hk
  simp [madeCells, hm]
theorem madeSec (n : Nat) : madeCells (Value.agg (cellsB (zer 512)).toArray).cells (n * 512) = (cellsB (zer (512 * n))).toArray := by
  rw [cells_zer, cells_zer, Nat.mul_comm 512 n]
  exact madeZ _ 512 _ (by omega)
theorem wpList_makeSecs {ops : Array Oper} {rest : List Oper} {o : Oper} {a : Act} {w : World} {Q : Exit → Act → World → Prop} (hg : o.guard = none) (l c : Operand) (hop : o.op = Op.makeSlice 198 l c)
    (n : Nat) (hl : a.eval l = .int .i64 (n : Int)) (hc : a.eval c = .int .i64 (n : Int)) (hn : n ≤ 4096)
    (hK : wpList Tryz.prog ops Q rest (a.put o.dst (.slice (some ⟨w.heap.size, 0, none⟩) n n)) (w.alloc (.cells (cellsB (zer (512 * n))).toArray 197))) : wpList Tryz.prog ops Q (o :: rest) a w := by
  refine wpList_plain hg fun K hK' => ?_
  have hi : (Tryz.prog.info? 197).map (fun i => (i.zero, i.size, i.bytes)) = some (some (.agg (cellsB (zer 512)).toArray), 512, 512) := by kernel_rfl
  obtain ⟨i, h2, h3, h4, h5⟩ := info_parts hi
  have hrun := run_make (P := Tryz.prog) w 198 197 i _ Tryz.underlying198 h2 h3 .i64 .i64 (n : Int) (n : Int) (by omega) (by omega) (by rw [h5]; omega) (by omega)
  rw [Int.toNat_natCast, h4, madeSec] at hrun
  unfold Oper.wp execOp
  simp only [hop, hl, hc, Sem.run_bind, Sem.run_pure, Result.andThen_ok, hrun]
  exact hK' _ _ hK
theorem alloc3 (w : World) (o1 o2 o3 : Obj) : (((w.alloc o1).alloc o2).alloc o3).heap[w.heap.size]? = some o1 ∧ (((w.alloc o1).alloc o2).alloc o3).heap[w.heap.size + 1]? = some o2 ∧ (((w.alloc o1).alloc o2).alloc o3).heap[w.heap.size + 1 + 1]? = some o3 ∧ Below w.heap.size w (((w.alloc o1).alloc o2).alloc o3) := by
  have s1 : (w.alloc o1).heap.size = w.heap.size + 1 := by simp
  have s2 : ((w.alloc o1).alloc o2).heap.size = w.heap.size + 1 + 1 := by simp
  refine ⟨?_, ?_, ?_, (((Below.refl _ w).alloc (Nat.le_refl _) _).alloc (by omega) _).alloc (by omega) _⟩
  · rw [Below.heap_alloc _ o3 _ (by omega), Below.heap_alloc _ o2 _ (by omega)]
    exact (MapKept.heap_alloc w o1).1
  · rw [Below.heap_alloc _ o3 _ (by omega), ← s1]
    exact (MapKept.heap_alloc _ o2).1
  · rw [← s2]
    exact (MapKept.heap_alloc _ o3).1
theorem builtDiskP (A : Option Addr) (n c b : Nat) : Tryz.prog.built 203 [(0, .slice A n c), (1, .map (some b))] = some #[.slice A n c, .map (some b), .bool false, .bool false, .int .i64 0, .int .i64 0, .int .i64 0, .slice none 0 0, .int .i64 0, .int .i64 0] := by kernel_rfl
theorem zeroDiskP : (Tryz.prog.info? 203).bind (·.zero) = some (.agg #[.slice none 0 0, .map none, .bool false, .bool false, .int .i64 0, .int .i64 0, .int .i64 0, .slice none 0 0, .int .i64 0, .int .i64 0]) := by kernel_rfl
theorem infoDiskP : (Tryz.prog.info? 203).map (·.size) = some 10 := by kernel_rfl

section
variable {S : Nat → Prop} {w w' : World} {g gd gp n : Nat} {m m' : RM} {x x' : PX} {D : DU}
theorem PrD.made {w : World} {g gd gp n : Nat} (hb : w.heap[g]? = some (.cells #[.slice (some ⟨gd, 0, none⟩) n n, .map (some gp), .bool false, .bool false, .int .i64 0, .int .i64 0, .int .i64 0, .slice none 0 0, .int .i64 0, .int .i64 0] 203 (0, 0)))
    (hr : RowB w gd 197 (zer (512 * n)) []) (hm : w.ownsMap Tryz.prog 3 secElem gp 0 (.map [] : DU)) (d1 : g ≠ gd) (d2 : g ≠ gp) (d3 : gd ≠ gp) : PrD w g gd gp n (newM n) ⟨0, 0, none, 0, 0, [], n, []⟩ (.map []) :=
  ⟨hb, by rw [show flat (newM n).last = zer (512 * n) from flat_rep n]; exact hr, hm, MapOf.none n _ (fun i hi => by
    show ((List.replicate n emp).getD i emp).size = 0
    rw [List.getD_eq_getElem?_getD, List.getElem?_replicate]
    split <;> rfl), OwnB.nil _ _, fun h => absurd h (by show ¬ (0 : Int) ≤ -1; omega), ⟨fun _ => ⟨rfl, rfl⟩, fun h => absurd h (by show ¬ (0 : Int) ≤ -1; omega)⟩, d1, d2, d3, fun k hk => by cases hk⟩

set_option maxRecDepth 100000 in
set_option maxHeartbeats 2000000 in
theorem pnew (w : World) (n : Nat) (h1 : 32 ≤ n) (h2 : n ≤ 4096) :
    Calls Tryz.prog 97 #[.int .i64 (n : Int)] w fun e w' => ∃ g S, e = .returned (.pointer (some ⟨g, 0, none⟩)) ∧ PD w' g S n (newM n) ∧ (∀ k, S k → w.heap.size ≤ k) ∧ Below w.heap.size w w' := by
  go_enter Tryz.func97, Tryz.ntmps97
  have hmm : ∀ W : World, (Instr.makeMap 199 none).run Tryz.prog W = .ok (.map (some W.heap.size)) (W.alloc (.map #[] 0)) := fun W => by simp [Instr.makeMap, go_sem, Result.andThen]
  go_wp2_with (at_make; refine wpList_makeSecs rfl (.tmp 9) (.tmp 9) rfl n rfl rfl h2 ?_)
  go_ret
  obtain ⟨a1, a2, a3, a4⟩ := alloc3 w (.cells (cellsB (zer (512 * n))).toArray 197) (.map #[] 0) (.cells #[.slice (some ⟨w.heap.size, 0, none⟩) n n, .map (some (w.heap.size + 1)), .bool false, .bool false, .int .i64 0, .int .i64 0, .int .i64 0, .slice none 0 0, .int .i64 0, .int .i64 0] 203)
  have hr : RowB (((w.alloc (.cells (cellsB (zer (512 * n))).toArray 197)).alloc (.map #[] 0)).alloc (.cells #[.slice (some ⟨w.heap.size, 0, none⟩) n n, .map (some (w.heap.size + 1)), .bool false, .bool false, .int .i64 0, .int .i64 0, .int .i64 0, .slice none 0 0, .int .i64 0, .int .i64 0] 203)) w.heap.size 197 (zer (512 * n)) [] := by
    unfold RowB
    rw [List.append_nil]
    exact a1
  have hp := PrD.made a3 hr ⟨#[], 0, a2, ⟨by simp, MapKept.stamped_empty 0, by simp⟩, Nat.le_refl _, rfl⟩ (by omega) (by omega) (by omega)
  refine ⟨_, _, rfl, ⟨_, _, _, _, hp, rfl⟩, ?_, a4⟩
  rintro k (rfl | rfl | rfl | hk)
  · omega
  · omega
  · omega
  · cases hk
set_option maxRecDepth 100000 in
theorem pnew_no (w : World) (i : Int) (h : i < 32 ∨ 4096 < i) (hi : -9223372036854775808 ≤ i ∧ i ≤ 9223372036854775807) :
    Calls Tryz.prog 97 #[.int .i64 i] w fun e w' => e = .returned (.pointer none) ∧ Below w.heap.size w w' := by
  obtain ⟨i1, i2⟩ := hi
  by_cases h1 : i < 32
  · go_enter Tryz.func97, Tryz.ntmps97
    go_wp2_with fail
    go_ret
    exact ⟨rfl, Below.refl _ _⟩
  · have h2 : 4096 < i := by omega
    clear h
    go_enter Tryz.func97, Tryz.ntmps97
    go_wp2_with fail
    go_ret
    exact ⟨rfl, Below.refl _ _⟩
end
end Go.Proofs.YtjpicaofgiagdaaGreat
namespace Go.Proofs.YtjpicaofgiagdaaGreat
open Go.RowKit Go.Maps Go.Sort Go.Shelf
set_option linter.unusedVariables false
set_option linter.unusedSimpArgs false

/-- slices.Sort's two contracts, at the fence that asks nothing. -/
theorem sorts40 (m : Nat) : AnyZI.SortsIn Tryz.prog sorted40_ren Fence.wide m :=
  ⟨fun blk off cap ss W hH hblk hsz => callsIn_wide.2 (AnyM.slices_Sort_int sort49 blk off cap ss W hH hblk hsz),
   fun p cap W => callsIn_wide.2 (AnyM.slices_Sort_int_none sort49 p cap W)⟩

section
variable {w : World} {g gd gp n : Nat} {m : RM} {x : PX} {D : DU}
set_option maxHeartbeats 1000000 in
theorem keysSorted (h : PrD w g gd gp n m x D) (ok : m.Ok n) :
    CallsIn Fence.wide 5 Tryz.prog 167 #[.func (.func 242) #[] #[.pointer (some ⟨w.heap.size, 0, none⟩)]] (w.alloc (.cells #[.map (some gp)] 199)) (fun e w' => RetI w (m.wtK n) e w') := by
  have hbl := h.map.lt
  have hsz := h.map.size_le
  have hwr := ok.wr
  have hseq : SeqGives Fence.wide 2 Tryz.prog 242 #[.pointer (some ⟨w.heap.size, 0, none⟩)] encZ (fun ss => ss.Perm (intKeys D)) (Maps.size D) (w.alloc (.cells #[.map (some gp)] 199)) :=
    AnyZI.keys_gives (ρ := keys41_ren) { keys41 with } Fence.wide _ trivial rfl (by omega) w.heap.size gp m.wrote D _ (by simp) (by simp) (by
      obtain ⟨es, clock, hb, Ft, hs, hD⟩ := h.map
      exact ⟨es, clock, (Below.heap_alloc _ _ gp hbl).trans hb, Ft, hs, hD⟩)
  have cS := AnyZI.sorted_in sorted40 Fence.wide 5 trivial trivial trivial trivial rfl (by omega) (sorts40 _) (enters_of Tryz.func236 (by kernel_rfl) rfl) 242 #[.pointer (some ⟨w.heap.size, 0, none⟩)] trivial (enters_of Tryz.func242 (by kernel_rfl) rfl) _ _ (by unfold maxLen; omega) (by omega) _ hseq
  change CallsIn _ _ Tryz.prog 167 _ _ _ at cS
  refine cS.mono ?_
  rintro e w' ⟨v, ss, rfl, hS, hrow, hnil, hb⟩
  obtain ⟨es, hD, hp, hk⟩ := h.map.entries intK
  have hP : ss.Perm ((m.wtK n).map fun (i : Nat) => (i : Int)) := hS.trans (h.mo.keys hD hp hk).symm
  have hlen : ss.length = (m.wtK n).length := by rw [hP.length_eq, List.length_map]
  have hsort : ss.mergeSort leI = (m.wtK n).map fun (i : Nat) => (i : Int) := by rw [mergeSort_of_perm_i hP]; exact RM.wtK_sorted m n
  have hrow2 : OwnV 3 w' (w.alloc (.cells #[.map (some gp)] 199)).heap.size v (ints (m.wtK n)) := by
    unfold OwnV
    have e1 : (ss.mergeSort leI).map encZ = ints (m.wtK n) := by
      rw [hsort]
      unfold ints
      rw [List.map_map]
      rfl
    have e2 : (ints (m.wtK n)).length = ss.length := by unfold ints; rw [List.length_map, hlen]
    rw [e2, ← e1]
    exact hrow
  obtain ⟨A, q, c, rfl⟩ := hrow2.slice
  refine ⟨A, q, c, rfl, ⟨hrow2.1, ?_⟩, ((Below.refl _ w).alloc (Nat.le_refl _) _).trans (hb.mono (by simp))⟩
  rcases hrow2.2 with h2 | ⟨g', c', cur, e, h3, r⟩
  · exact .inl h2
  · exact .inr ⟨g', c', cur, e, by simp at h3; omega, r⟩

set_option maxRecDepth 100000 in
set_option maxHeartbeats 1000000 in
theorem pwaiting (h : PrD w g gd gp n m x D) (ok : m.Ok n) : Calls Tryz.prog 110 #[.pointer (some ⟨g, 0, none⟩)] w (RetI w (m.wtK n)) := by
  have N := Lib.hid ((callsIn_wide (n := 5)).2 (pnone_any h ok))
  have cK : ∀ mb W, CallsIn Fence.wide 5 Tryz.prog 178 #[.map mb] W fun e w' => e = .returned (.func (.func 242) #[] #[.pointer (some ⟨W.heap.size, 0, none⟩)]) ∧ w' = W.alloc (.cells #[.map mb] 199) := fun mb W => AnyZI.keys_in keys41 Fence.wide 5 trivial rfl mb W
  have cS := keysSorted h ok
  have c1 := h.pm
  clear h ok
  refine (callsIn_wide (n := 6)).1 ?_
  have hfN : Fence.wide.fn 109 := trivial
  have hfK : Fence.wide.fn 178 := trivial
  have hfS : Fence.wide.fn 167 := trivial
  refine callsIn_of_wp Tryz.func110 rfl trivial ?_ rfl
  simp only [Tryz.ntmps110, List.size_toArray, List.length_cons, List.length_nil, Nat.reduceAdd, Nat.reduceSub, Array.replicate_succ, Array.replicate_zero, List.push_toArray, List.append_toArray, List.nil_append, List.cons_append]
  gi_wp2_with (first
    | (gi_at_call 109; refine N.out.mono ?_; rintro e w1 ⟨rfl, rfl⟩)
    | (gi_at_call 178; refine (cK _ _).mono ?_; rintro e w' ⟨rfl, rfl⟩)
    | (gi_at_call 167; refine cS.mono ?_; rintro e w' ⟨A, q, c, rfl, hrow, hb⟩))
  go_ret
  exact ⟨A, q, c, rfl, hrow, hb⟩
end
end Go.Proofs.YtjpicaofgiagdaaGreat
namespace Go.Proofs.YtjpicaofgiagdaaGreat
open Go.RowKit Go.Maps
set_option linter.unusedVariables false
set_option linter.unusedSimpArgs false

theorem RM.wtK_idx (m : RM) (n i : Nat) (hi : i < n) (h : (m.wait.getD i emp).size ≠ 0) : (m.wtK n)[(m.wtK i).length]? = some i := by
  induction n with
  | zero => omega
  | succ n ih =>
    rw [RM.wtK_succ]
    by_cases e : i = n
    · subst e
      rw [if_neg h]
      simp
    · have := ih (by omega)
      split
      · exact this
      · rw [List.getElem?_append_left (List.getElem?_eq_some_iff.1 this).1]
        exact this
theorem RM.wtK_get (m : RM) (n j i : Nat) (h : (m.wtK n)[j]? = some i) : i < n ∧ (m.wait.getD i emp).size ≠ 0 ∧ (m.wtK i).length = j := by
  induction n with
  | zero => simp [RM.wtK] at h
  | succ n ih =>
    rw [RM.wtK_succ] at h
    split at h
    · obtain ⟨h1, h2, h3⟩ := ih h
      exact ⟨by omega, h2, h3⟩
    · rename_i hz
      by_cases hj : j < (m.wtK n).length
      · rw [List.getElem?_append_left hj] at h
        obtain ⟨h1, h2, h3⟩ := ih h
        exact ⟨by omega, h2, h3⟩
      · rw [List.getElem?_append_right (by omega)] at h
        obtain ⟨h1, h2⟩ := List.getElem?_eq_some_iff.1 h
        simp at h1 h2
        subst h2
        exact ⟨by omega, hz, by omega⟩
/-- Which sectors have been kept behind j of the waiting ones. -/
def pwF (m : RM) (keep : List Bool) (j i : Nat) : Bool := pendB m i && (decide ((m.wtK i).length < j) && keep.getD (m.wtK i).length false)
theorem pwF_pend (m : RM) (keep : List Bool) (j i : Nat) (h : pwF m keep j i = true) : pendB m i = true := by
  unfold pwF at h
  rw [Bool.and_eq_true] at h
  exact h.1
theorem pw_zero (m : RM) (n : Nat) (ok : m.Ok n) (keep : List Bool) : mix m n (pwF m keep 0) = m.last :=
  mix_none m n ok _ fun i _ => by
    unfold pwF
    simp
theorem pwF_other (m : RM) (n : Nat) (keep : List Bool) (j i : Nat) (hj : (m.wtK n)[j]? = some i) (i' : Nat) (hi' : i' < n) (hne : i' ≠ i) : pwF m keep (j + 1) i' = pwF m keep j i' := by
  unfold pwF
  by_cases hp : pendB m i' = true
  · have hne2 : (m.wtK i').length ≠ j := fun e => by
      have := m.wtK_idx n i' hi' (of_decide_eq_true hp)
      rw [e, hj] at this
      injection this with this
      exact hne this.symm
    have : decide ((m.wtK i').length < j + 1) = decide ((m.wtK i').length < j) := by
      rw [Bool.eq_iff_iff, decide_eq_true_iff, decide_eq_true_iff]; omega
    rw [this]
  · rw [Bool.not_eq_true] at hp
    rw [hp]
    rfl
theorem pw_keep (m : RM) (n : Nat) (keep : List Bool) (j i : Nat) (hj : (m.wtK n)[j]? = some i) (hk : keep.getD j false = true) : mix m n (pwF m keep (j + 1)) = (mix m n (pwF m keep j)).set i (m.wait.getD i emp) := by
  obtain ⟨h1, h2, h3⟩ := m.wtK_get n j i hj
  refine mix_set m n _ _ i h1 ?_ (pwF_other m n keep j i hj)
  unfold pwF
  have hp : pendB m i = true := decide_eq_true h2
  rw [h3, hk, hp]
  simp
theorem pw_drop (m : RM) (n : Nat) (keep : List Bool) (j i : Nat) (hj : (m.wtK n)[j]? = some i) (hk : keep.getD j false = false) : mix m n (pwF m keep (j + 1)) = mix m n (pwF m keep j) := by
  obtain ⟨h1, h2, h3⟩ := m.wtK_get n j i hj
  refine mix_same m n _ _ fun i' hi' => ?_
  by_cases e : i' = i
  · subst e
    unfold pwF
    rw [h3, hk]
    simp
  · exact pwF_other m n keep j i hj i' hi' e
/-- Behind the loop. -/
theorem pw_end (m : RM) (n : Nat) (ok : m.Ok n) (keep : List Bool) : ∃ W, (m.pwK keep n).1 = { m with last := mix m n (pwF m keep (m.wtK n).length), wait := W } ∧ ∀ i, i < n → (W.getD i emp).size = 0 := by
  obtain ⟨L, W, e⟩ := m.pwK_form keep n
  have okf := ok.pwK keep n
  rw [e] at okf
  refine ⟨W, ?_, fun i hi => ?_⟩
  · rw [e]
    have : L = mix m n (pwF m keep (m.wtK n).length) := getD_ext okf.nl (mix_len _ _ _) fun i hi => by
      have h1 := (m.pwK_at n ok keep n i (Nat.le_refl _)).1
      rw [e] at h1
      rw [mix_at _ _ _ hi]
      refine h1.trans ?_
      unfold pwF
      by_cases h0 : (m.wait.getD i emp).size = 0
      · have hp : pendB m i = false := decide_eq_false (fun hh => hh h0)
        rw [if_neg (fun hh => hh.2.1 h0), hp]; rfl
      · have hp : pendB m i = true := decide_eq_true h0
        have hl : decide ((m.wtK i).length < (m.wtK n).length) = true := decide_eq_true (List.getElem?_eq_some_iff.1 (m.wtK_idx n i hi h0)).1
        rw [hp, hl]
        by_cases hk : keep.getD (m.wtK i).length false = true
        · rw [if_pos ⟨hi, h0, hk⟩, hk]; rfl
        · rw [if_neg (fun hh => hk hh.2.2)]
          rw [Bool.not_eq_true] at hk
          rw [hk]; rfl
    rw [this]
  · have h2 := (m.pwK_at n ok keep n i (Nat.le_refl _)).2.1
    rw [e] at h2
    have h3 : W.getD i emp = if i < n ∧ (m.wt i).size ≠ 0 then emp else m.wt i := h2
    rw [h3]
    split
    · rfl
    · rename_i hh
      by_cases h0 : (m.wt i).size = 0
      · exact h0
      · exact absurd ⟨hi, h0⟩ hh
/-! ### The sector on its way -/
theorem flat_split {l : List ByteArray} (hl : ∀ s ∈ l, s.size = 512) {k : Nat} (hk : k < l.length) : flat l = (flat l).take (512 * k) ++ lst (l.getD k emp) ++ (flat l).drop (512 * k + 512) := by
  have h := flat_set hl hk (l.getD k emp)
  have e : l.set k (l.getD k emp) = l := by
    rw [List.getD_eq_getElem?_getD, List.getElem?_eq_getElem hk]
    exact List.set_getElem_self hk
  rw [e] at h
  exact h
theorem lst_torn (c s : ByteArray) : lst (torn c s) = lst c ++ (lst s).drop (lst c).length := by
  unfold torn lst
  rw [ByteArray.data_append, Array.toList_append, ByteArray.data_extract, Array.toList_extract]
  congr 1
  rw [List.extract_eq_take_drop]
  exact List.take_of_length_le (by rw [List.length_drop]; exact Nat.le_refl _)
theorem flat_torn {l : List ByteArray} (hl : ∀ s ∈ l, s.size = 512) {k : Nat} (hk : k < l.length) {c : ByteArray} (hc : c.size ≤ 512) :
    flat (l.set k (torn c (l.getD k emp))) = (flat l).take (k * 512) ++ (lst c ++ (flat l).drop (k * 512 + (lst c).length)) := by
  have hs : (l.getD k emp).size = 512 := hl _ (by rw [List.getD_eq_getElem?_getD, List.getElem?_eq_getElem hk]; exact List.getElem_mem hk)
  have hcl : (lst c).length ≤ 512 := hc
  have hll : (lst (l.getD k emp)).length = 512 := hs
  rw [flat_set hl hk, lst_torn, Nat.mul_comm k 512]
  have h1 : (flat l).drop (512 * k + (lst c).length) = (lst (l.getD k emp)).drop (lst c).length ++ (flat l).drop (512 * k + 512) := by
    conv => lhs; rw [flat_split hl hk]
    have ht : ((flat l).take (512 * k)).length = 512 * k := by
      rw [List.length_take, flat_len hl]; omega
    rw [List.append_assoc, List.drop_append, List.drop_eq_nil_of_le (by rw [ht]; omega), List.nil_append, ht, show 512 * k + (lst c).length - 512 * k = (lst c).length by omega, List.drop_append]
    rw [show (lst c).length - (lst (l.getD k emp)).length = 0 by omega, List.drop_zero]
  rw [h1]
  simp [List.append_assoc]

section
variable {S : Nat → Prop} {w w' : World} {g gd gp n : Nat} {m m' : RM} {x x' : PX} {D : DU}
/-- copy into a row of bytes, at a place of it. -/
theorem wpList_copyD {P : Program} {ops : Array Oper} {rest : List Oper} {o : Oper} {a : Act} {W : World} {Q : Exit → Act → World → Prop} (hgd : o.guard = none) (d s : Operand)
    (ho : o.op = .call { callee := .builtin .copy, args := #[d, s], argTypes := #[72, 72] }) (ht : P.underlying 72 = some (.slice 5)) (hsz : (P.info? 5).map (·.size) = some 1)
    (b off N c0 : Nat) (t : TypeId) (L l : List UInt8) (E : List Value) (hd : a.eval d = .slice (some ⟨b, off, none⟩) N c0) (hb : RowB W b t L E) (hfit : off + l.length ≤ L.length)
    (A : Option Addr) (q c : Nat) (hs : a.eval s = .slice A q c) (hm : HasB W W.heap.size A q l) (hle : q ≤ N)
    (h : ∀ w', RowB w' b t (L.take off ++ (l ++ L.drop (off + l.length))) E → Only (fun j => j = b) W w' → ∀ v, wpList P ops Q rest (a.put o.dst v) w') : wpList P ops Q (o :: rest) a W := by
  obtain ⟨hql, hcell⟩ := hm
  by_cases h0 : q = 0
  · obtain rfl : l = [] := List.eq_nil_of_length_eq_zero (by omega)
    refine wpList_copy_nothing hgd d s _ _ ho 5 ht hsz _ _ _ _ _ _ hd hs (by show min q N = 0; omega) (h W ?_ (Only.refl _ _) _)
    simpa using hb
  · obtain ⟨g', o', rfl, _, hc⟩ := hcell (by omega)
    refine wpList_copy_own hgd d s _ _ ho 5 ht hsz b off N c0 ⟨g', o', none⟩ q c hd hs (cellsB L ++ E).toArray t hb (cellsB l) (by rw [cellsB_length]; show _ = min q N; omega) (fun j v hv => ?_) (by simp only [List.size_toArray, List.length_append, cellsB_length]; omega) (cellsB_one l) (h _ ?_ ((Only.refl _ _).setRow (S := fun j => j = b) rfl _) _)
    · obtain ⟨y, hy, rfl⟩ := cellsB_at hv
      rw [Addr.add_lit]
      exact hc j y hy
    · have e : ((cellsB L ++ E).toArray.toList.take off ++ (cellsB l ++ (cellsB L ++ E).toArray.toList.drop (off + (cellsB l).length))).toArray = (cellsB (L.take off ++ (l ++ L.drop (off + l.length))) ++ E).toArray := by
        rw [cellsB_length]
        show ((cellsB L ++ E).take off ++ (cellsB l ++ (cellsB L ++ E).drop (off + l.length))).toArray = _
        rw [List.take_append_of_le_length (by rw [cellsB_length]; omega), List.drop_append_of_le_length (by rw [cellsB_length]; omega)]
        simp [cellsB, List.map_take, List.map_drop]
      rw [e]
      exact setRow_heap W b _ _ t _ hb
/-- The sector on its way comes to rest. -/
theorem PrD.flown (h : PrD w g gd gp n m x D) (ok : m.Ok n) {k : Nat} (hk : x.sc = (k : Int)) (h1 : RowB w' gd 197 ((flat m.last).take (k * 512) ++ (x.tl ++ (flat m.last).drop (k * 512 + x.tl.length))) x.ex) (h2 : Only (fun j => j = gd) w w') : PrD w' g gd gp n m.flyM x D := by
  have key : ∃ L, m.flyM = { m with last := L } ∧ flat L = (flat m.last).take (k * 512) ++ (x.tl ++ (flat m.last).drop (k * 512 + x.tl.length)) := by
    unfold RM.flyM
    by_cases h0 : 0 ≤ m.way
    · obtain ⟨e1, e2⟩ := h.wy.2 h0
      rw [if_pos h0]
      refine ⟨_, rfl, ?_⟩
      have hkn : m.way.toNat = k := by omega
      rw [hkn, e2]
      have := ok.wy
      exact flat_torn ok.ls (by rw [ok.nl]; omega) ok.cm
    · obtain ⟨e1, e2⟩ := h.wy.1 (by omega)
      rw [if_neg h0]
      refine ⟨m.last, rfl, ?_⟩
      rw [e2]
      simp
  obtain ⟨L, e, eL⟩ := key
  rw [← eL] at h1
  rw [e]
  exact ⟨(h2.block g (Array.getElem?_eq_some_iff.1 h.blk).1 h.d1).trans h.blk, h1, ownsMap_only h.map h2 (fun e => h.d3 e.symm), h.mo, h.tr.only h2 (fun j hj e => (h.dt j hj).2.1 e), h.ar, h.wy, h.d1, h.d2, h.d3, h.dt⟩
theorem HasNo.only {T : Nat → Prop} {A : Option Addr} {q : Nat} {l : List Bool} (h : HasNo w S A q l) (ho : Only T w w') (hT : ∀ k, ¬ S k → ¬ T k) : HasNo w' S A q l :=
  ⟨h.1, fun hn => by
    obtain ⟨b, o, e, hg, hS, hc⟩ := h.2 hn
    refine ⟨b, o, e, Nat.lt_of_lt_of_le hg ho.size, hS, fun i y hi => ?_⟩
    have := hc i y hi
    unfold World.cell? at this ⊢
    rw [ho.block b hg (hT b hS)]
    exact this⟩
end
end Go.Proofs.YtjpicaofgiagdaaGreat
namespace Go.Proofs.YtjpicaofgiagdaaGreat
open Go.RowKit Go.Maps
set_option linter.unusedVariables false
set_option linter.unusedSimpArgs false

section
variable {S : Nat → Prop} {w w' : World} {g gd gp n : Nat} {m m' : RM} {x x' : PX} {D : DU}
/-- Power's loop. -/
structure PwS (w wr : World) (g gd gp n : Nat) (m : RM) (x : PX) (D : DU) (B : Option Addr) (p d : Nat) (A : Option Addr) (q : Nat) (keep : List Bool) (j : Nat) : Prop where
  dk : PrD wr g gd gp n { m with last := mix m n (pwF m keep j) } x D
  own : OwnV 3 wr w.heap.size (.slice B p d) (ints (m.wtK n))
  kp : HasNo wr (PrB g gd gp x) A q keep
  o : Only (PrB g gd gp x) w wr
theorem PwS.drew {wr : World} {B : Option Addr} {p d : Nat} {A : Option Addr} {q : Nat} {keep : List Bool} {j : Nat} (h : PwS w wr g gd gp n m x D B p d A q keep j) : PwS w wr.drew g gd gp n m x D B p d A q keep j := ⟨h.dk.drew, h.own.drew, h.kp, h.o.drew⟩
theorem sizeU8p : (Tryz.prog.info? 5).map (·.size) = some 1 := by kernel_rfl
theorem tear0_ones : ∀ v ∈ (#[Value.int .i64 0, .slice none 0 0] : Array Value).toList, v.oneCell' = true := tear_ones _ _ _ _
theorem builtTear0 : Tryz.prog.built 201 [] = some #[.int .i64 0, .slice none 0 0] := by kernel_rfl
/-- The power is back. -/
theorem PrD.back (h : PrD w g gd gp n m x D) {w' : World} (ho : Only (fun j => j = g) w w') (hb : w'.heap[g]? = some (.cells (pdC gd gp n { m with off := false, arms := -1, way := -1, powers := m.powers + 1 } { x with sc := 0, TA := none, tn := 0, tc := 0, tl := [] }) 203 (0, 0))) :
    PrD w' g gd gp n { m with off := false, arms := -1, way := -1, powers := m.powers + 1 } { x with sc := 0, TA := none, tn := 0, tc := 0, tl := [] } D :=
  ⟨hb, (ho.block gd h.row.lt (fun e => h.d1 e.symm)).trans h.row, ownsMap_only h.map ho (fun e => h.d2 e.symm), h.mo, OwnB.nil _ _, fun h0 => absurd h0 (by show ¬ (0 : Int) ≤ -1; omega), ⟨fun _ => ⟨rfl, rfl⟩, fun h0 => absurd h0 (by show ¬ (0 : Int) ≤ -1; omega)⟩, h.d1, h.d2, h.d3, fun k hk => by cases hk⟩
set_option maxRecDepth 100000 in
theorem lookS_run {W : World} (h : PrD W g gd gp n m x D) (ok : m.Ok n) {k : Nat} (hk : k < n) : (Instr.lookup 199 (.map (some gp)) (.int .i64 (k : Int)) false).run Tryz.prog W = .ok (.agg (cellsB (pendL m k)).toArray) W := by
  have n2 := ok.n2
  obtain ⟨v, ps, hrun, hv⟩ := h.map.lookup intK Tryz.underlying199 (zeroSecRun W) (secElem_mk (zer_len 512)) (keyI (i := k) (by omega))
  obtain ⟨l, rfl, hl, e⟩ := secElem_inv hv
  rw [Prod.mk.injEq] at e
  have e1 := e.1
  have el : l = pendL m k := by
    unfold pendL
    by_cases h0 : (m.wait.getD k emp).size = 0
    · rw [if_pos h0]
      rw [h.mo.no hk h0] at e1
      injection e1 with e1
      injection e1 with e1
      exact e1.symm
    · rw [if_neg h0]
      rw [h.mo.at_ k hk h0] at e1
      injection e1 with e1
      injection e1 with e1
      exact e1.symm
  subst el
  exact hrun
theorem stillLk {P : Program} {o : Oper} {a : Act} {w : World} {K : Act → Prop} {ty : TypeId} {mo xo : Operand} (ho : o.op = .lookup ty mo xo false) {M X : Value} (hm : a.eval mo = M) (hx : a.eval xo = X) {v : Value} (hr : (Instr.lookup ty M X false).run P w = .ok v w) (h : K (a.put o.dst v)) : o.still P a w K := by
  unfold Oper.still execOp
  simp only [ho, hm, hx, Sem.run_bind, Sem.run_pure, Result.andThen_ok, hr]
  exact ⟨rfl, h⟩

set_option maxRecDepth 100000 in
set_option maxHeartbeats 4000000 in
theorem ppower (A : Option Addr) (q c : Nat) (keep : List Bool) (h : PrD w g gd gp n m x D) (ok : m.Ok n) (hpw : m.powers < 1073741824) (hk : HasNo w (PrB g gd gp x) A q keep) (hqc : q ≤ c) (hq : q ≤ 1073741824) :
    Calls Tryz.prog 36 #[.pointer (some ⟨g, 0, none⟩), .slice A q c] w (Left2 PD w g (PrB g gd gp x) n (.tuple #[]) (m.powerM n keep)) := by
  have N := Lib.hid (pnone_any h ok)
  have CW := Lib.hid (pwaiting h ok)
  have OK := Lib.hid ok
  have n2 := ok.n2
  have HLT := Lib.hid h.lt
  have H := Lib.hid h
  have HK := Lib.hid hk
  have hql := hk.1
  have hwl : (m.wtK n).length ≤ n := m.wtK_len n
  obtain ⟨Wt, hE, hW0⟩ := pw_end m n ok keep
  have EE := Lib.hid hE
  have W0 := Lib.hid hW0
  have okE := ok.pwK keep n
  rw [hE] at okE
  have OE := Lib.hid okE
  obtain ⟨p, hp⟩ : ∃ p, (m.wtK n).length = p := ⟨_, rfl⟩
  have HP := Lib.hid hp
  rw [hp] at hwl
  have HPW := Lib.hid hpw
  clear h ok hk hE hW0 okE hp hpw
  go_enter Tryz.func36, Tryz.ntmps36
  go_wp2_with (first
    | (go_at_call 109; refine N.out.mono ?_; rintro e w1' ⟨rfl, rfl⟩)
    | (go_at_call 110; refine CW.out.mono ?_; rintro e w1 ⟨B, p', d, rfl, own1, b1⟩
       have hp' := own1.len
       rw [show (ints (m.wtK n)).length = p from by unfold ints; rw [List.length_map, HP.out]] at hp'
       subst hp'
       have OW1 := Lib.hid own1
       have B1 := Lib.hid b1
       clear own1 b1))
  have hS0 : PwS w w1 g gd gp n m x D B p' d A q keep 0 := by
    have e0 := pw_zero m n OK.out keep
    refine ⟨?_, OW1.out, HK.out.only (Only.of_below (S := fun _ => False) B1.out (Nat.le_refl _)) (fun _ _ h => h), Only.of_below B1.out (Nat.le_refl _)⟩
    rw [e0]
    exact H.out.keepB B1.out
  have S0 := Lib.hid hS0
  clear hS0
  go_loopw [4, 5, 11] (fun _ _ u wr => ∃ j : Nat, j ≤ p' ∧ u = .int .i64 (j : Int) ∧ PwS w wr g gd gp n m x D B p' d A q keep j) (fun _ _ u _ => p' - (intOf u).toNat)
  case atStart => exact ⟨0, by omega, rfl, S0.out⟩
  case round =>
    obtain ⟨j, hj, rfl, hS⟩ := hrel
    by_cases hlt : j < p'
    · obtain ⟨i, hi⟩ : ∃ i, (m.wtK n)[j]? = some i := ⟨_, List.getElem?_eq_getElem (by rw [HP.out]; exact hlt)⟩
      obtain ⟨hin, hpd, _⟩ := m.wtK_get n j i hi
      obtain ⟨bw, rfl, hbw, hbl, hcw⟩ := hS.own.at_ (by omega)
      have kw : wr.cell? ⟨bw, j, none⟩ = some (.int .i64 (i : Int)) := hcw j _ (by unfold ints; rw [List.getElem?_map, hi]; rfl)
      have SR := Lib.hid hS
      have HI := Lib.hid hi
      have HPD := Lib.hid hpd
      have HBW := Lib.hid hbw
      clear hS hi hpd hcw hbw hbl
      by_cases hjq : j < q
      · obtain ⟨bk, ok', rfl, hbk, _, hck⟩ := HK.out.2 (by omega)
        obtain ⟨y, hy⟩ : ∃ y, keep[j]? = some y := ⟨_, List.getElem?_eq_getElem (by omega)⟩
        have hyd : keep.getD j false = y := by rw [List.getD_eq_getElem?_getD, hy]; rfl
        have kk : wr.cell? ⟨bk, ok' + j, none⟩ = some (.bool y) := by
          obtain ⟨bk2, ok2, e2, _, _, hck2⟩ := SR.out.kp.2 (by omega)
          simp only [Option.some.injEq, Addr.mk.injEq, and_true] at e2
          obtain ⟨rfl, rfl⟩ := e2
          exact hck2 j y hy
        have HYD := Lib.hid hyd
        clear hck hy hyd hbk
        cases y with
        | true =>
          have k0 := SR.out.dk.du
          have k1 := SR.out.dk.pm
          have h512 : (m.wait.getD i emp).size = 512 := by have := OK.out.wsz hin; have := HPD.out; omega
          have ep : pendL m i = lst (m.wait.getD i emp) := by unfold pendL; rw [if_neg HPD.out]
          obtain ⟨s, hs⟩ : ∃ s, m.wait.getD i emp = s := ⟨_, rfl⟩
          rw [hs] at h512 ep
          have HS := Lib.hid hs
          have EP := Lib.hid ep
          have H512 := Lib.hid h512
          have SS := Lib.hid (sizeSec (l := lst s) h512)
          have okL : ({ m with last := mix m n (pwF m keep j) } : RM).Ok n := OK.out.mixed (fun i _ h => pwF_pend m keep j i h)
          have OL := Lib.hid okL
          clear okL hs ep h512
          go_upto_region 5 with fail
          obtain ⟨w4, h4⟩ : ∃ w4, wr.drew = w4 := ⟨_, rfl⟩
          have S4 : Hid (PwS w w4 g gd gp n m x D (some ⟨bw, 0, none⟩) p' d (some ⟨bk, ok', none⟩) q keep j) := Lib.hid (h4 ▸ SR.out.drew)
          have H4 := Lib.hid h4
          have LK := Lib.hid (lookS_run S4.out.dk OL.out hin)
          rw [show pendL { m with last := mix m n (pwF m keep j) } i = lst s from EP.out] at LK
          clear h4
          go_still_tail 12, (by kernel_rfl)
          change wpStill _ _ wr.drew _ _ _
          rw [H4.out]
          refine wpStill_step (fun K hK => ?_)
          refine stillLk rfl rfl rfl LK.out ?_
          refine hK _ ?_
          clear hK K
          simp only [Act.put, List.setIfInBounds_toArray, List.set_cons_zero, List.set_cons_succ]
          still_step
          refine wpStill_nil ?_
          change wpList _ _ _ _ _ wr.drew
          rw [H4.out]
          obtain ⟨L, hL⟩ : ∃ L, mix m n (pwF m keep j) = L := ⟨_, rfl⟩
          have P4 := S4.out.dk
          rw [hL] at P4 OL
          have P4h := Lib.hid P4
          have HLL := Lib.hid hL
          have fit : i * 512 + (cellsB (lst s)).toArray.size ≤ (cellsB (flat L) ++ x.ex).toArray.size := by
            have h1 : (flat L).length = 512 * L.length := flat_len OL.out.ls
            have h2 : L.length = n := OL.out.nl
            simp only [List.size_toArray, List.length_append, cellsB_length, h1, h2, lst_len, H512.out]
            omega
          have FT := Lib.hid fit
          clear hL fit P4 k0 k1
          go_wp2_with (first
            | (refine wpList_storePart rfl 197 (.tmp 37) (.tmp 36) rfl gd (i * 512) (cellsB (lst s)).toArray rfl rfl 197 (cellsB (flat L) ++ x.ex).toArray P4h.out.row SS.out FT.out (fun v hv => cellsB_one _ v (by simpa using hv)) ?_
               change wpList _ _ _ _ _ (w4.setRow gd (secRow L x.ex i (lst s)))
               have o8 : Only (fun j => j = gd) w4 (w4.setRow gd (secRow L x.ex i (lst s))) := (Only.refl _ _).setRow (S := fun j => j = gd) rfl _
               have P8 := P4h.out.setSec OL.out hin H512.out
               have eL : L.set i s = mix m n (pwF m keep (j + 1)) := by rw [pw_keep m n keep j i HI.out HYD.out, HLL.out, HS.out]
               have SN : PwS w (w4.setRow gd (secRow L x.ex i (lst s))) g gd gp n m x D (some ⟨bw, 0, none⟩) p' d (some ⟨bk, ok', none⟩) q keep (j + 1) := by
                 refine ⟨?_, S4.out.own.only o8 (fun k hk e => ?_), S4.out.kp.only o8 (fun k hk e => hk (.inr (.inl e))), S4.out.o.trans (o8.mono (fun k _ e => .inr (.inl e)))⟩
                 · rw [← eL]
                   exact P8
                 · obtain rfl : bw = k := by injection hk
                   have := HLT.out gd (.inr (.inl rfl))
                   have := HBW.out
                   omega
               have SNh := Lib.hid SN
               clear SN P8 o8 eL
               generalize w4.setRow gd (secRow L x.ex i (lst s)) = w8 at SNh ⊢))
          go_roundw
          case rel => exact ⟨j + 1, by omega, by go_num, SNh.out⟩
          case measure => simp [intOf]; omega
        | false =>
          have SN : PwS w wr g gd gp n m x D (some ⟨bw, 0, none⟩) p' d (some ⟨bk, ok', none⟩) q keep (j + 1) := by
            have e := pw_drop m n keep j i HI.out HYD.out
            refine ⟨?_, SR.out.own, SR.out.kp, SR.out.o⟩
            rw [e]
            exact SR.out.dk
          have SNh := Lib.hid SN
          clear SN
          go_wp2_with fail
          go_roundw
          case rel => exact ⟨j + 1, by omega, by go_num, SNh.out⟩
          case measure => simp [intOf]; omega
      · have hyd : keep.getD j false = false := by rw [List.getD_eq_getElem?_getD, List.getElem?_eq_none (by omega)]; rfl
        have SN : PwS w wr g gd gp n m x D (some ⟨bw, 0, none⟩) p' d A q keep (j + 1) := by
          have e := pw_drop m n keep j i HI.out hyd
          refine ⟨?_, SR.out.own, SR.out.kp, SR.out.o⟩
          rw [e]
          exact SR.out.dk
        have SNh := Lib.hid SN
        clear SN hyd
        go_wp2_with fail
        go_roundw
        case rel => exact ⟨j + 1, by omega, by go_num, SNh.out⟩
        case measure => simp [intOf]; omega
    · obtain rfl : j = p' := by omega
      have hD := hS.dk
      have hO := hS.o
      rw [show mix m n (pwF m keep j) = mix m n (pwF m keep (m.wtK n).length) from by rw [HP.out]] at hD
      have k1 := hD.pm
      have DR := Lib.hid hD
      have ORh := Lib.hid hO
      clear hS hD hO
      obtain ⟨M2, hM2⟩ : ∃ M2, (m.pwK keep n).1 = M2 := ⟨_, rfl⟩
      have hE2 := EE.out
      have O2 := OE.out
      rw [← EE.out, hM2] at O2
      rw [hM2] at hE2
      have E2 := Lib.hid hE2
      have OM2 := Lib.hid O2
      have HM2 := Lib.hid hM2
      have hway : M2.way = m.way := by rw [hE2]
      have hcom : M2.coming = m.coming := by rw [hE2]
      have hpow : M2.flyM.powers = m.powers := by
        have : M2.flyM.powers = M2.powers := by unfold RM.flyM; split <;> rfl
        rw [this, hE2]
      obtain ⟨k, hk, hkn⟩ : ∃ k : Nat, x.sc = (k : Int) ∧ k < n := by
        by_cases h0 : m.way < 0
        · exact ⟨0, (H.out.wy.1 h0).1, by have := OK.out.n1; omega⟩
        · have h1 := (H.out.wy.2 (by omega)).1
          have h2 := OK.out.wy
          exact ⟨m.way.toNat, by omega, by omega⟩
      have htl : x.tl.length ≤ 512 := by
        by_cases h0 : m.way < 0
        · rw [(H.out.wy.1 h0).2]; simp
        · rw [(H.out.wy.2 (by omega)).2]; exact OK.out.cm
      have HKs := Lib.hid hk
      have HTL := Lib.hid htl
      have HPO := Lib.hid hpow
      clear hE2 O2 hM2 hway hcom hpow hk htl
      go_upto_region 8 with (first
        | (refine wpList_clearS rfl (.tmp 42) rfl rfl m.wrote DR.out.map ?_; intro w5 own5 o5
           have P5 := DR.out.cleared own5 o5 W0.out
           rw [← E2.out] at P5
           have P5h := Lib.hid P5
           have O5h := Lib.hid (ORh.out.trans (o5.mono (fun k _ e => .inr (.inr (.inl e)))))
           clear own5 o5 P5))
      have c0 := P5h.out.du
      have c6 : w5.cell? ⟨g, 6, none⟩ = some (.int .i64 (k : Int)) := by rw [← HKs.out]; exact P5h.out.cell 6
      have c7 : w5.cell? ⟨g, 7, none⟩ = some (.slice x.TA x.tn x.tc) := P5h.out.cell 7
      obtain ⟨w6, h6⟩ : ∃ w6, w5.drew = w6 := ⟨_, rfl⟩
      have P6 : Hid (PrD w6 g gd gp n M2 x (.map [])) := Lib.hid (h6 ▸ P5h.out.drew)
      have O6 : Hid (Only (PrB g gd gp x) w w6) := Lib.hid (h6 ▸ O5h.out.drew)
      have H6 := Lib.hid h6
      clear h6
      go_still_tail 16, (by kernel_rfl)
      change wpList _ _ _ _ _ w5.drew
      rw [H6.out]
      have fit : k * 512 + x.tl.length ≤ (flat M2.last).length := by
        have h1 : (flat M2.last).length = 512 * M2.last.length := flat_len OM2.out.ls
        have h2 : M2.last.length = n := OM2.out.nl
        have := HTL.out
        rw [h1, h2]
        omega
      have FT := Lib.hid fit
      clear fit c0 c6 c7 k1
      go_upto_region 9 with (first
        | (refine wpList_copyD rfl (.tmp 53) (.tmp 58) rfl Tryz.underlying72 sizeU8p gd (k * 512) 512 512 197 (flat M2.last) x.tl x.ex rfl P6.out.row FT.out x.TA x.tn x.tc rfl P6.out.tr.has (by have := P6.out.tr.len; have := HTL.out; omega) ?_; intro w7 b7 o7 v7
           have P7 := P6.out.flown OM2.out HKs.out b7 o7
           have P7h := Lib.hid P7
           have O7h := Lib.hid (O6.out.trans (o7.mono (fun k _ e => .inr (.inl e))))
           clear b7 o7 P7))
      go_frame
      go_upto_region 10 with (refine wpList_storePart rfl 201 (.tmp 63) (.tmp 61) rfl g 6 #[.int .i64 0, .slice none 0 0] rfl rfl 203 (pdC gd gp n M2.flyM x) P7h.out.blk infoTear (show 8 ≤ 10 by omega) tear0_ones ?_)
      go_frame
      generalize h8 : World.setRow _ _ _ = w8
      obtain ⟨x0, hx0⟩ : ∃ x0 : PX, x0 = { x with sc := 0, TA := none, tn := 0, tc := 0, tl := [] } := ⟨_, rfl⟩
      have b8 : w8.heap[g]? = some (.cells (pdC gd gp n M2.flyM x0) 203 (0, 0)) := by
        rw [← h8, hx0]
        exact setRow_heap w7 g _ _ _ _ P7h.out.blk
      have o8 : Only (fun j => j = g) w7 w8 := by
        rw [← h8]
        exact (Only.refl _ _).setRow (S := fun j => j = g) rfl _
      have c3 : w8.cell? ⟨g, 3, none⟩ = some (.bool (decide (0 ≤ M2.flyM.arms))) := cell_of_row w8 g 3 _ _ (0, 0) b8
      have c2 : w8.cell? ⟨g, 2, none⟩ = some (.bool M2.flyM.off) := cell_of_row w8 g 2 _ _ (0, 0) b8
      have c9 : w8.cell? ⟨g, 9, none⟩ = some (.int .i64 (M2.flyM.powers : Int)) := cell_of_row w8 g 9 _ _ (0, 0) b8
      have f3 : w8.frozen? ⟨g, 3, none⟩ = false := frozen_of_row w8 g 3 _ _ b8
      have f2 : w8.frozen? ⟨g, 2, none⟩ = false := frozen_of_row w8 g 2 _ _ b8
      have f9 : w8.frozen? ⟨g, 9, none⟩ = false := frozen_of_row w8 g 9 _ _ b8
      obtain ⟨M3, hM3⟩ : ∃ M3, M2.flyM = M3 := ⟨_, rfl⟩
      have P7 := P7h.out
      rw [hM3] at b8 c3 c2 c9 P7
      have hp3 : M3.powers < 1073741824 := by rw [← hM3, HPO.out]; exact HPW.out
      have B8 := Lib.hid b8
      have O8 := Lib.hid o8
      have P7k := Lib.hid P7
      have HX0 := Lib.hid hx0
      have HM3 := Lib.hid hM3
      clear h8 b8 o8 P7 hM3 hx0 P7h
      go_wp2_with fail
      go_end0
      have ePM : m.powerM n keep = { M3 with off := false, arms := -1, way := -1, powers := M3.powers + 1 } := by
        show ({ (m.pwK keep n).1.flyM with off := false, arms := -1, way := -1, powers := (m.pwK keep n).1.flyM.powers + 1 } : RM) = _
        rw [HM2.out, HM3.out]
      rw [ePM]
      have o9 : Only (fun j => j = g) w7 (((w8.setCell ⟨g, 3, none⟩ (.bool false)).setCell ⟨g, 2, none⟩ (.bool false)).setCell ⟨g, 9, none⟩ (.int .i64 ((M3.powers : Int) + 1))) := ((O8.out.cell1 _ _).cell1 _ _).cell1 _ _
      have b9 := heap3 B8.out (.bool false) (.bool false) (.int .i64 ((M3.powers : Int) + 1)) 3 2 9
      rw [HX0.out] at b9
      refine ⟨rfl, ⟨_, ⟨gd, gp, _, .map [], P7k.out.back o9 b9, rfl⟩, fun j hj => .inl ?_⟩, O7h.out.trans (o9.mono (fun k _ e => .inl e))⟩
      rcases hj with hj | hj | hj | hj
      · exact .inl hj
      · exact .inr (.inl hj)
      · exact .inr (.inr (.inl hj))
      · cases hj
end
end Go.Proofs.YtjpicaofgiagdaaGreat
namespace Go.Proofs.YtjpicaofgiagdaaGreat
open Go.RowKit Go.Maps
set_option linter.unusedVariables false
set_option linter.unusedSimpArgs false

theorem retV_below {w : World} {v : Value} {f : FuncId} {args : Array Value} (h : Calls Tryz.prog f args w (RetV w v)) : Calls Tryz.prog f args w fun e w' => e = .returned v ∧ Below w.heap.size w w' :=
  h.mono fun e w' ⟨h1, h2⟩ => ⟨h1, h2 ▸ Below.refl _ _⟩
theorem pwrite_any {w : World} {g n : Nat} {S : Nat → Prop} {m : RM} (i : Int) (A : Option Addr) (q c : Nat) (l : List UInt8) (h : PD w g S n m) (ok : m.Ok n) (hw : m.wrote < 1073741824) (hi : -9223372036854775808 ≤ i ∧ i ≤ 9223372036854775807) (hB : HasN w S A q l) (hqc : q ≤ c) (hq : q ≤ 1073741824) :
    Calls Tryz.prog 239 #[.pointer (some ⟨g, 0, none⟩), .int .i64 i, .slice A q c] w (Left2 PD w g S n (.int .i64 (m.writeE n i (strB l))) (m.writeM n i (strB l))) := by
  obtain ⟨gd, gp, x, D, p, rfl⟩ := h
  exact pwrite i A q c l p ok hw hi hB hqc hq
theorem pflush_any {w : World} {g n : Nat} {S : Nat → Prop} {m : RM} (h : PD w g S n m) (ok : m.Ok n) :
    Calls Tryz.prog 238 #[.pointer (some ⟨g, 0, none⟩)] w (Left2 PD w g S n (.int .i64 m.flushE) (m.flushM n)) := by
  obtain ⟨gd, gp, x, D, p, rfl⟩ := h
  exact pflush p ok
theorem ppower_any {w : World} {g n : Nat} {S : Nat → Prop} {m : RM} (A : Option Addr) (q c : Nat) (keep : List Bool) (h : PD w g S n m) (ok : m.Ok n) (hp : m.powers < 1073741824) (hk : HasNo w S A q keep) (hqc : q ≤ c) (hq : q ≤ 1073741824) :
    Calls Tryz.prog 36 #[.pointer (some ⟨g, 0, none⟩), .slice A q c] w (Left2 PD w g S n (.tuple #[]) (m.powerM n keep)) := by
  obtain ⟨gd, gp, x, D, pd, rfl⟩ := h
  exact ppower A q c keep pd ok hp hk hqc hq
/-- The program's disk. -/
def theDK : DK where
  D := PD
  lt := by
    rintro w g S n m ⟨gd, gp, x, D, p, rfl⟩
    exact p.lt
  only := by
    rintro w w' g S T n m ⟨gd, gp, x, D, p, rfl⟩ ho hT
    exact ⟨gd, gp, x, D, p.only ho hT, rfl⟩
  len_q := by
    rintro w g S n m ⟨gd, gp, x, D, p, rfl⟩ ok
    exact plen p ok
  lives_q := by
    rintro w g S n m ⟨gd, gp, x, D, p, rfl⟩ ok
    exact plives p ok
  new_any := pnew
  new_no := pnew_no
  len_any := by
    rintro w g S n m ⟨gd, gp, x, D, p, rfl⟩ ok
    exact retV_below (plen p ok)
  lives_any := by
    rintro w g S n m ⟨gd, gp, x, D, p, rfl⟩ ok
    exact retV_below (plives p ok)
  waiting_any := by
    rintro w g S n m ⟨gd, gp, x, D, p, rfl⟩ ok
    exact pwaiting p ok
  read_any := by
    rintro w g S n m i ⟨gd, gp, x, D, p, rfl⟩ ok hi
    exact pread i p ok hi
  write_any := pwrite_any
  flush_any := pflush_any
  power_any := ppower_any
end Go.Proofs.YtjpicaofgiagdaaGreat
