/-
  Own work. Arrays of type api.ID in boxes: results that lie in a cell, arrays out of rows.
-/
import Derived.Test.YtadagbkfemcgfaaIi
import Derived.Test.YtadagbkfemcgfaaG1
import Derived.Laws.ResultCell
namespace Go.Proofs.Ytadagbkfemcgfaa
open Go.RowKit
set_option linter.unusedVariables false
set_option linter.unusedSimpArgs false

theorem results_cell_row4 {P : Program} {fn : Func} {p u v y : Tmp} {ty : TypeId} (h : fn.results = #[.cell p ty, .tmp u, .tmp v, .tmp y]) (tmps : Array Value) (w : World) (g : Nat) (t : TypeId) (cs : Array Value) (fr : Nat × Nat) (d : TypeDesc)
    (hp : tmps.getD p undef = .pointer (some ⟨g, 0, none⟩)) (hg : w.heap[g]? = some (.cells cs t fr))
    (hu : P.underlying ty = some d) (hd : (match d with | .struct _ | .array _ _ => true | _ => false) = true) (hi : (P.info? ty).map (·.size) = some cs.size) (U V Y : Value) (hU : tmps.getD u undef = U) (hV : tmps.getD v undef = V) (hY : tmps.getD y undef = Y) :
    (results fn tmps).run P w = .ok (.tuple #[.agg cs, U, V, Y]) w := by
  have hp' : tmps[p]?.getD undef = .pointer (some ⟨g, 0, none⟩) := by simpa using hp
  have hU' : tmps[u]?.getD undef = U := by simpa using hU
  have hV' : tmps[v]?.getD undef = V := by simpa using hV
  have hY' : tmps[y]?.getD undef = Y := by simpa using hY
  simp [results, h, hp', hU', hV', hY', asAddr, run_loadVar_row w g t ty cs fr d hg hu hd hi]
theorem results_cell_pair {P : Program} {fn : Func} {p u : Tmp} {ty : TypeId} (h : fn.results = #[.cell p ty, .tmp u]) (tmps : Array Value) (w : World) (g : Nat) (t : TypeId) (cs : Array Value) (fr : Nat × Nat) (d : TypeDesc)
    (hp : tmps.getD p undef = .pointer (some ⟨g, 0, none⟩)) (hg : w.heap[g]? = some (.cells cs t fr))
    (hu : P.underlying ty = some d) (hd : (match d with | .struct _ | .array _ _ => true | _ => false) = true) (hi : (P.info? ty).map (·.size) = some cs.size) (v : Value) (hv : tmps.getD u undef = v) :
    (results fn tmps).run P w = .ok (.tuple #[.agg cs, v]) w := by
  have hp' : tmps[p]?.getD undef = .pointer (some ⟨g, 0, none⟩) := by simpa using hp
  have hv' : tmps[u]?.getD undef = v := by simpa using hv
  simp [results, h, hp', hv', asAddr, run_loadVar_row w g t ty cs fr d hg hu hd hi]
/-- 32 bytes of a row that reads, as an array. -/
theorem HasB.load_idAt {w : World} {B n g o k : Nat} {l : List UInt8} (h : HasB w B (some ⟨g, o, none⟩) n l) (hk : k + 32 ≤ n) : (loadVar 23 ⟨g, o + k, none⟩).run Try.prog w = .ok (.agg (cellsB ((l.drop k).take 32)).toArray) w := by
  have hl := h.len
  have hlen : ((l.drop k).take 32).length = 32 := by rw [List.length_take, List.length_drop]; omega
  obtain ⟨g', o', e, _, hc⟩ := h.2 (by omega)
  simp only [Option.some.injEq, Addr.mk.injEq, and_true] at e
  obtain ⟨rfl, rfl⟩ := e
  have hc' : (loadCells ⟨g, o + k, none⟩ (cellsB ((l.drop k).take 32)).length).run Try.prog w = .ok (cellsB ((l.drop k).take 32)).toArray w :=
    run_loadCells_list (P := Try.prog) w ⟨g, o + k, none⟩ (cellsB ((l.drop k).take 32)) (fun j v hv => by
      obtain ⟨b, hb, rfl⟩ := cellsB_at hv
      rw [Addr.add_lit]
      show w.cell? ⟨g, o + k + j, none⟩ = _
      rw [Nat.add_assoc]
      refine hc (k + j) b ?_
      rw [List.getElem?_take] at hb
      split at hb
      · rw [List.getElem?_drop] at hb; exact hb
      · cases hb)
  rw [cellsB_length, hlen] at hc'
  have hi := infoID
  cases hq : Try.prog.info? 23 with
  | none => simp [hq] at hi
  | some i =>
    have hs : i.size = 32 := by simpa [hq] using hi
    have hagg : (isAgg 23).run Try.prog w = .ok true w := by
      unfold isAgg
      rw [Sem.run_bind, run_underlying Try.underlying23 w]
      rfl
    simp [loadVar, Sem.run_bind, hagg, sizeOf, typeInfo, hq, hs, hc']
theorem wpList_load_at {P : Program} {ops : Array Oper} {rest : List Oper} {o : Oper} {a : Act} {w : World} {Q : Exit → Act → World → Prop} (hw : Region.wanted o (yielded ops a.tmps) = true) (ty : TypeId) (x : Operand) (ho : o.op = .load ty x)
    (ad : Addr) (hx : a.eval x = .pointer (some ad)) (v : Value) (hl : (loadVar ty ad).run P w = .ok v w) (h : wpList P ops Q rest (a.put o.dst v) w) : wpList P ops Q (o :: rest) a w := by
  refine BigFrame.wpList_want hw fun K hK => ?_
  unfold Oper.wp execOp
  simp only [ho, hx, Instr.loadAt, Instr.sureAddr, Sem.run_bind, Sem.run_pure, Result.andThen_ok, hl]
  exact hK _ _ h
theorem built_id : Try.prog.built 23 [] = some (cellsB (zer 32)).toArray := by kernel_rfl
/-- An array of a new box. -/
theorem box_id (w : World) (q : List UInt8) : Bw ((w.alloc (.cells (cellsB (zer 32)).toArray 23)).setRow w.heap.size (cellsB q).toArray) w.heap.size 23 q := Bw.row (m := q) (Bw.new w (zer 32) 23)
theorem box_below (w : World) (q : List UInt8) : Below w.heap.size w ((w.alloc (.cells (cellsB (zer 32)).toArray 23)).setRow w.heap.size (cellsB q).toArray) :=
  below_setRow ((Below.refl w.heap.size w).alloc (Nat.le_refl _) (.cells (cellsB (zer 32)).toArray 23)) (Nat.le_refl _) (cellsB q).toArray
/-- Two values held against each other, as a step of a region that draws. -/
theorem yieldsIf_bin {P : Program} {ops : Array Oper} {o : Oper} {a : Act} {S : World → Prop} (hw : Region.wanted o (yielded ops a.tmps) = true) (b : BinOp) (t u : TypeId) (x y : Operand) (ho : o.op = .binOp b t x y u) (X Y V : Value) (hx : a.eval x = X) (hy : a.eval y = Y)
    (hg : ∀ w, (eqGuard b t x y X Y).run P w = .ok () w) (hb : ∀ w, (binOp b t X Y).run P w = .ok V w) : YieldsIf P ops S o V a := by
  refine Or.inl ⟨hw, fun w hS => ?_⟩
  unfold execOp
  simp only [ho, hx, hy, Sem.run_bind, Sem.run_pure, Result.andThen_ok, hg, hb]
theorem guard_neq_str (s t : ByteArray) (x y : Operand) (w : World) : (eqGuard .neq 9 x y (.string s) (.string t)).run Try.prog w = .ok () w := by
  unfold eqGuard
  simp
theorem neq_str (a b : List UInt8) (w : World) : (binOp .neq 9 (.string ⟨a.toArray⟩) (.string ⟨b.toArray⟩)).run Try.prog w = .ok (.bool (decide (a ≠ b))) w := by
  go_simp
  rw [Bool.eq_iff_iff, decide_eq_true_iff]
  by_cases h : a = b
  · subst h
    simp
  · simp [h]
theorem OwnB.rowFar {w : World} {base g : Nat} {v : Value} {l : List UInt8} (h : OwnB w base v l) (hg : g < base) (cs : Array Value) : OwnB (w.setRow g cs) base v l := by
  refine ⟨h.1, ?_⟩
  rcases h.2 with h2 | ⟨k, c, cur, e, h3, hk, r⟩
  · exact .inl h2
  · exact .inr ⟨k, c, cur, e, h3, (setRow_other w g k cs (by omega)).trans hk, r⟩
theorem yieldsIf_arrAt {P : Program} {ops : Array Oper} {o : Oper} {a : Act} {S : World → Prop} (hw : Region.wanted o (yielded ops a.tmps) = true) (arr el : TypeId) (n : Nat) (x : Operand) (ho : o.op = .sliceToArrayPointer arr x)
    (hu : P.underlying arr = some (.array n el)) (A : Option Addr) (len cap : Nat) (hx : a.eval x = .slice A len cap) (hn : n ≤ len) : YieldsIf P ops S o (.pointer A) a := by
  refine Or.inl ⟨hw, fun w hS => ?_⟩
  have hr : (Instr.arrayAt arr (.slice A len cap)).run P w = .ok (.pointer A) w := by
    unfold Instr.arrayAt
    simp [run_underlying hu, Nat.not_lt.2 hn]
  unfold execOp
  simp only [ho, hx, Sem.run_bind, Sem.run_pure, Result.andThen_ok, hr]
/-- A struct of three parts built, as a step of a region that draws. -/
theorem yieldsIf_build3 {P : Program} {ops : Array Oper} {o : Oper} {a : Act} {S : World → Prop} (hw : Region.wanted o (yielded ops a.tmps) = true) (t : TypeId) (i j k : Nat) (x y z : Operand) (ho : o.op = .build t #[(i, x), (j, y), (k, z)])
    (u v q : Value) (hx : a.eval x = u) (hy : a.eval y = v) (hz : a.eval z = q) (cells : Array Value) (hf : P.built t [(i, u), (j, v), (k, q)] = some cells) : YieldsIf P ops S o (.agg cells) a := by
  refine Or.inl ⟨hw, fun w hS => ?_⟩
  unfold execOp
  simp only [ho, Sem.run_bind, List.map_toArray, List.map_cons, List.map_nil, hx, hy, hz, run_build w t _ _ hf, Result.andThen_ok, Sem.run_pure]
/-- A whole row stored, as a step of a region that draws. -/
theorem step_store_row {P : Program} {ops : Array Oper} {o : Oper} {a : Act} {w : World} {K : Act → World → Prop} {Q : Exit → Act → World → Prop} {F : Prop} (hw : Region.wanted o (yielded ops a.tmps) = true) (ty : TypeId) (x y : Operand) (ho : o.op = .store ty x y)
    (g : Nat) (cells : Array Value) (hx : a.eval x = .pointer (some ⟨g, 0, none⟩)) (hy : a.eval y = .agg cells) (t : TypeId) (cur : Array Value) (hg : w.heap[g]? = some (.cells cur t (0, 0))) (hi : (P.info? ty).map (·.size) = some cells.size)
    (hz : cur.size = cells.size) (h1 : ∀ v ∈ cells.toList, v.oneCell' = true) (h : K (a.put o.dst undef) (w.setRow g cells)) :
    if Region.wanted o (yielded ops a.tmps) = true then Oper.wp P o a w K Q else F := by
  rw [if_pos hw]
  refine wp_store_part ty x y ho g 0 cells hx hy t cur hg hi (by omega) h1 ?_
  have e : (cur.toList.take 0 ++ cells.toList ++ cur.toList.drop (0 + cells.size)).toArray = cells := by
    rw [List.take_zero, List.nil_append, List.drop_of_length_le (by rw [Array.length_toList]; omega), List.append_nil]
  rw [e]
  exact h
end Go.Proofs.Ytadagbkfemcgfaa
