/-
  Own work. The program's disk: New and Copy.
-/
import Derived.Test.YtkbbpkbchniddaaPw
import Derived.Test.YtkbbpkbchniddaaLs5
namespace Go.Proofs.Ytkbbpkbchniddaa
open Go.RowKit Go.Maps
set_option linter.unusedVariables false
set_option linter.unusedSimpArgs false

theorem cells_zer (n : Nat) : cellsB (zer n) = List.replicate n (Value.int .u8 0) := by simp [cellsB, zer]
theorem madeZ (z : Value) (k N : Nat) (hk : 0 < k) : madeCells (List.replicate k z).toArray N = (List.replicate N z).toArray := by
  refine Array.ext (by simp [madeCells]) fun i h1 h2 => ?_
  have hm : i % k < k := Nat.mod_lt _ hk
  simp [madeCells, hm]
theorem madeSec (n : Nat) : madeCells (Value.agg (cellsB (zer 512)).toArray).cells (n * 512) = (cellsB (zer (512 * n))).toArray := by
  rw [cells_zer, cells_zer, Nat.mul_comm 512 n]
  exact madeZ _ 512 _ (by omega)
theorem wpList_makeSecs {ops : Array Oper} {rest : List Oper} {o : Oper} {a : Act} {w : World} {Q : Exit → Act → World → Prop} (hg : o.guard = none) (l c : Operand) (hop : o.op = Op.makeSlice 88 l c)
    (n : Nat) (hl : a.eval l = .int .i64 (n : Int)) (hc : a.eval c = .int .i64 (n : Int)) (hn : n ≤ 4096)
    (hK : wpList Try.prog ops Q rest (a.put o.dst (.slice (some ⟨w.heap.size, 0, none⟩) n n)) (w.alloc (.cells (cellsB (zer (512 * n))).toArray 104))) : wpList Try.prog ops Q (o :: rest) a w := by
  refine wpList_plain hg fun K hK' => ?_
  have hi : (Try.prog.info? 104).map (fun i => (i.zero, i.size, i.bytes)) = some (some (.agg (cellsB (zer 512)).toArray), 512, 512) := by kernel_rfl
  obtain ⟨i, h2, h3, h4, h5⟩ := info_parts hi
  have hrun := run_make (P := Try.prog) w 88 104 i _ Try.underlying88 h2 h3 .i64 .i64 (n : Int) (n : Int) (by omega) (by omega) (by rw [h5]; omega) (by omega)
  rw [Int.toNat_natCast, h4, madeSec] at hrun
  unfold Oper.wp execOp
  simp only [hop, hl, hc, Sem.run_bind, Sem.run_pure, Result.andThen_ok, hrun]
  exact hK' _ _ hK
theorem alloc3 (w : World) (o1 o2 o3 : Obj) : (((w.alloc o1).alloc o2).alloc o3).heap[w.heap.size]? = some o1 ∧ (((w.alloc o1).alloc o2).alloc o3).heap[w.heap.size + 1]? = some o2 ∧ (((w.alloc o1).alloc o2).alloc o3).heap[w.heap.size + 1 + 1]? = some o3 ∧ Below w.heap.size w (((w.alloc o1).alloc o2).alloc o3) := by
  have s1 : (w.alloc o1).heap.size = w.heap.size + 1 := by simp
  have s2 : ((w.alloc o1).alloc o2).heap.size = w.heap.size + 1 + 1 := by simp
  refine ⟨?_, ?_, ?_, (((Below.refl _ w).alloc (Nat.le_refl _) _).alloc (by omega) _).alloc (by omega) _⟩
  · rw [Below.heap_alloc _ o3 _ (by omega), Below.heap_alloc _ o2 _ (by omega)]
    exact (MapKept.heap_alloc w o1).1
  · rw [Below.heap_alloc _ o3 _ (by omega), ← s1]
    exact (MapKept.heap_alloc _ o2).1
  · rw [← s2]
    exact (MapKept.heap_alloc _ o3).1
theorem builtDiskP (A : Option Addr) (n c b : Nat) : Try.prog.built 93 [(0, .slice A n c), (1, .map (some b))] = some #[.slice A n c, .map (some b), .bool false, .bool false, .int .i64 0, .int .i64 0, .int .i64 0, .slice none 0 0, .int .i64 0, .int .i64 0] := by kernel_rfl
theorem zeroDiskP : (Try.prog.info? 93).bind (·.zero) = some (.agg #[.slice none 0 0, .map none, .bool false, .bool false, .int .i64 0, .int .i64 0, .int .i64 0, .slice none 0 0, .int .i64 0, .int .i64 0]) := by kernel_rfl
theorem infoDiskP : (Try.prog.info? 93).map (·.size) = some 10 := by kernel_rfl

section
variable {S : Nat → Prop} {w w' : World} {g gd gp n : Nat} {m m' : RM} {x x' : PX} {D : DU}
theorem PrD.made {w : World} {g gd gp n : Nat} (hb : w.heap[g]? = some (.cells #[.slice (some ⟨gd, 0, none⟩) n n, .map (some gp), .bool false, .bool false, .int .i64 0, .int .i64 0, .int .i64 0, .slice none 0 0, .int .i64 0, .int .i64 0] 93 (0, 0)))
    (hr : RowB w gd 104 (zer (512 * n)) []) (hm : w.ownsMap Try.prog 3 secElem gp 0 (.map [] : DU)) (d1 : g ≠ gd) (d2 : g ≠ gp) (d3 : gd ≠ gp) : PrD w g gd gp n (newM n) ⟨0, 0, none, 0, 0, [], n, []⟩ (.map []) :=
  ⟨hb, by rw [show flat (newM n).last = zer (512 * n) from flat_rep n]; exact hr, hm, MapOf.none n _ (fun i hi => by
    show ((List.replicate n emp).getD i emp).size = 0
    rw [List.getD_eq_getElem?_getD, List.getElem?_replicate]
    split <;> rfl), OwnB.nil _ _, fun h => absurd h (by show ¬ (0 : Int) ≤ -1; omega), ⟨fun _ => ⟨rfl, rfl⟩, fun h => absurd h (by show ¬ (0 : Int) ≤ -1; omega)⟩, d1, d2, d3, fun k hk => by cases hk⟩

set_option maxRecDepth 100000 in
set_option maxHeartbeats 2000000 in
theorem pnew (w : World) (n : Nat) (h1 : 32 ≤ n) (h2 : n ≤ 4096) :
    Calls Try.prog 16 #[.int .i64 (n : Int)] w fun e w' => ∃ g S, e = .returned (.pointer (some ⟨g, 0, none⟩)) ∧ PD w' g S n (newM n) ∧ (∀ k, S k → w.heap.size ≤ k) ∧ Below w.heap.size w w' := by
  go_enter Try.func16, Try.ntmps16
  have hmm : ∀ W : World, (Instr.makeMap 89 none).run Try.prog W = .ok (.map (some W.heap.size)) (W.alloc (.map #[] 0)) := fun W => by simp [Instr.makeMap, go_sem, Result.andThen]
  go_wp2_with (at_make; refine wpList_makeSecs rfl (.tmp 9) (.tmp 9) rfl n rfl rfl h2 ?_)
  go_ret
  obtain ⟨a1, a2, a3, a4⟩ := alloc3 w (.cells (cellsB (zer (512 * n))).toArray 104) (.map #[] 0) (.cells #[.slice (some ⟨w.heap.size, 0, none⟩) n n, .map (some (w.heap.size + 1)), .bool false, .bool false, .int .i64 0, .int .i64 0, .int .i64 0, .slice none 0 0, .int .i64 0, .int .i64 0] 93)
  have hr : RowB (((w.alloc (.cells (cellsB (zer (512 * n))).toArray 104)).alloc (.map #[] 0)).alloc (.cells #[.slice (some ⟨w.heap.size, 0, none⟩) n n, .map (some (w.heap.size + 1)), .bool false, .bool false, .int .i64 0, .int .i64 0, .int .i64 0, .slice none 0 0, .int .i64 0, .int .i64 0] 93)) w.heap.size 104 (zer (512 * n)) [] := by
    unfold RowB
    rw [List.append_nil]
    exact a1
  have hp := PrD.made a3 hr ⟨#[], 0, a2, ⟨by simp, MapKept.stamped_empty 0, by simp⟩, Nat.le_refl _, rfl⟩ (by omega) (by omega) (by omega)
  refine ⟨_, _, rfl, ⟨_, _, _, _, hp, rfl⟩, ?_, a4⟩
  rintro k (rfl | rfl | rfl | hk)
  · omega
  · omega
  · omega
  · cases hk
set_option maxRecDepth 100000 in
theorem pnew_no (w : World) (i : Int) (h : i < 32 ∨ 4096 < i) (hi : -9223372036854775808 ≤ i ∧ i ≤ 9223372036854775807) :
    Calls Try.prog 16 #[.int .i64 i] w fun e w' => e = .returned (.pointer none) ∧ Below w.heap.size w w' := by
  obtain ⟨i1, i2⟩ := hi
  by_cases h1 : i < 32
  · go_enter Try.func16, Try.ntmps16
    go_wp2_with fail
    go_ret
    exact ⟨rfl, Below.refl _ _⟩
  · have h2 : 4096 < i := by omega
    clear h
    go_enter Try.func16, Try.ntmps16
    go_wp2_with fail
    go_ret
    exact ⟨rfl, Below.refl _ _⟩
end
end Go.Proofs.Ytkbbpkbchniddaa
