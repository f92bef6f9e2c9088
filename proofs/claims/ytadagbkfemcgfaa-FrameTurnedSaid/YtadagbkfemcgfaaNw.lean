/-
  Own work. The contracts of sha's New, Len and Copy.
-/
import Derived.Test.YtadagbkfemcgfaaLd
namespace Go.Proofs.Ytadagbkfemcgfaa
open Go.RowKit
set_option linter.unusedVariables false
set_option linter.unusedSimpArgs false

theorem wpList_build1 {P : Program} {ops : Array Oper} {rest : List Oper} {o : Oper} {a : Act} {w : World} {Q : Exit → Act → World → Prop} (hg : o.guard = none) (t : TypeId) (i : Nat) (x : Operand) (ho : o.op = .build t #[(i, x)]) (v : Value) (hx : a.eval x = v)
    (cells : Array Value) (hf : P.built t [(i, v)] = some cells) (h : wpList P ops Q rest (a.put o.dst (.agg cells)) w) : wpList P ops Q (o :: rest) a w := by
  refine wpList_plain hg fun K hK => ?_
  unfold Oper.wp execOp
  simp only [ho, Sem.run_bind, List.map_toArray, List.map_cons, List.map_nil, hx, run_build w t _ _ hf, Result.andThen_ok]
  exact hK _ _ h
theorem wpList_allocV {P : Program} {ops : Array Oper} {rest : List Oper} {o : Oper} {a : Act} {w : World} {Q : Exit → Act → World → Prop} (hg : o.guard = none) (t : TypeId) (ho : o.op = .alloc t) (cells : Array Value) (hz : (P.info? t).bind (·.zero) = some (.agg cells))
    (h : wpList P ops Q rest (a.put o.dst (.pointer (some ⟨w.heap.size, 0, none⟩))) (w.alloc (.cells cells t))) : wpList P ops Q (o :: rest) a w := by
  refine wpList_plain hg fun K hK => ?_
  cases hi : P.info? t with
  | none => simp [hi] at hz
  | some i =>
    simp only [hi, Option.bind_some] at hz
    unfold Oper.wp
    simp [execOp, ho, Instr.alloc, zeroValue, typeInfo, hi, hz, Result.andThen, newVar]
    exact hK _ _ h
theorem zeroHash : (Try.prog.info? 156).bind (·.zero) = some (.agg (hashV (List.replicate 8 0) (List.replicate 64 0) 0).toArray) := by kernel_rfl
theorem hashV_ones (s : List Nat) (b : List UInt8) (n : Nat) : (hashV s b n).toArray.all (·.oneCell') = true := by
  rw [Array.all_eq_true]
  intro i hi
  have hm : (hashV s b n).toArray[i] ∈ hashV s b n := by simp
  revert hm
  generalize (hashV s b n).toArray[i] = v
  intro hm
  simp only [hashV, List.mem_append, List.mem_map, List.mem_singleton, cellsB] at hm
  rcases hm with ⟨x, _, rfl⟩ | ⟨x, _, rfl⟩ | rfl <;> rfl
theorem builtNew : Try.prog.built 156 [(0, .agg (wordsW H0L))] = some (hashV H0L (List.replicate 64 0) 0).toArray := by kernel_rfl
/-- A new hash, at the head of a block that was not there. -/
def RetNew (w : World) (D : List UInt8) (e : Ending) (w' : World) : Prop := ∃ g, e = .returned (.pointer (some ⟨g, 0, none⟩)) ∧ w.heap.size ≤ g ∧ HashD w' g D ∧ Below w.heap.size w w'

set_option maxRecDepth 100000 in
theorem new_any (w : World) : Calls Try.prog 86 #[] w (RetNew w []) := by
  go_enter Try.func86, Try.ntmps86
  go_wp2_with (first
    | (go_at_call 102; refine (first_any _).mono ?_; rintro e w1 ⟨rfl, hb1⟩)
    | (refine wpList_build1 rfl 156 0 (.tmp 1) rfl _ rfl (hashV H0L (List.replicate 64 0) 0).toArray builtNew ?_))
  go_ret
  refine ⟨w1.heap.size, rfl, hb1.size, ⟨List.replicate 64 0, ⟨?_, rfl, H0L_small, by simp⟩, rfl⟩, hb1.alloc hb1.size _⟩
  exact heap_alloc_new w1 _

end Go.Proofs.Ytadagbkfemcgfaa
