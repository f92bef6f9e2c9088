/-
  Own work. Arrays of bytes held against each other; what a law hands back.
-/
import Derived.Test.YtkpmfpbeidhcbaaOf
import Derived.Deep.DeepCutAuto
import Derived.Lib.SmallJoins
namespace Go.Proofs.Ytkpmfpbeidhcbaa
open Go.RowKit
set_option linter.unusedVariables false
set_option linter.unusedSimpArgs false

theorem bytes_inj : ∀ {l m : List UInt8}, l.map (fun x => (x.toNat : Int)) = m.map (fun x => (x.toNat : Int)) → l = m
  | [], [], _ => rfl
  | [], _ :: _, h => by simp at h
  | _ :: _, [], h => by simp at h
  | a :: l, b :: m, h => by
    simp only [List.map_cons, List.cons.injEq] at h
    have h1 : a.toNat = b.toNat := by omega
    rw [bytes_inj h.2, UInt8.toNat_inj.1 h1]
/-- What '==' says of two answers. -/
theorem eql_id (l m : List UInt8) (hl : l.length = 32) (hm : m.length = 32) (w : World) :
    (binOp .eql 30 (.agg (cellsB l).toArray) (.agg (cellsB m).toArray)).run Try.prog w = .ok (.bool (decide (l = m))) w := by
  have c : Try.prog.cellsOf 30 = 32 := by kernel_rfl
  have := eql_ints (P := Try.prog) Try.underlying30 Try.underlying5 c (by kernel_rfl) (by kernel_rfl) (fun cs hcs => by
    unfold Value.formed
    simp only [Try.underlying30, hcs, c]
    rfl) (l.map fun x => (x.toNat : Int)) (m.map fun x => (x.toNat : Int)) (by simp [hl]) (by simp [hm]) (wf_u8 l) (wf_u8 m) w
  rw [← bytes_ints, ← bytes_ints] at this
  rw [this]
  congr 2
  rw [decide_eq_decide]
  exact ⟨bytes_inj, fun h => by rw [h]⟩
theorem eql_id_same (l : List UInt8) (hl : l.length = 32) (w : World) :
    (binOp .eql 30 (.agg (cellsB l).toArray) (.agg (cellsB l).toArray)).run Try.prog w = .ok (.bool true) w := by
  rw [eql_id l l hl hl w, decide_eq_true rfl]
theorem guard_id (xs ys : Array Value) (x y : Operand) (w : World) : (eqGuard .eql 30 x y (.agg xs) (.agg ys)).run Try.prog w = .ok () w := by
  unfold eqGuard
  simp

section
variable {P : Program} {ops : Array Oper} {o : Oper} {a : Act} {S : World → Prop}
theorem yieldsIf_loadG (hw : Region.wanted o (yielded ops a.tmps) = true) (ty : TypeId) (x : Operand) (ho : o.op = .load ty x) (ad : Addr) (hx : a.eval x = .pointer (some ad)) (v : Value)
    (hl : ∀ w, S w → (loadVar ty ad).run P w = .ok v w) : YieldsIf P ops S o v a := by
  refine Or.inl ⟨hw, fun w hS => ?_⟩
  unfold execOp
  simp only [ho, hx, Instr.loadAt, Instr.sureAddr, Sem.run_bind, Sem.run_pure, Result.andThen_ok, hl w hS]
theorem yieldsIf_eql (hw : Region.wanted o (yielded ops a.tmps) = true) (t u : TypeId) (x y : Operand) (ho : o.op = .binOp .eql t x y u) (X Y : Value) (r : Bool) (hx : a.eval x = X) (hy : a.eval y = Y)
    (hg : ∀ w, (eqGuard .eql t x y X Y).run P w = .ok () w) (hb : ∀ w, (binOp .eql t X Y).run P w = .ok (.bool r) w) : YieldsIf P ops S o (.bool r) a := by
  refine Or.inl ⟨hw, fun w hS => ?_⟩
  unfold execOp
  simp only [ho, hx, hy, Sem.run_bind, Sem.run_pure, Result.andThen_ok, hg, hb]
end
theorem Bw.load {w : World} {g : Nat} {l : List UInt8} (h : Bw w g 30 l) (hl : l.length = 32) : (loadVar 30 ⟨g, 0, none⟩).run Try.prog w = .ok (.agg (cellsB l).toArray) w :=
  run_loadVar_row w g _ 30 _ (0, 0) _ h Try.underlying30 rfl (by rw [cellsB_size, hl]; exact infoID)
theorem Bw.load1 {w : World} {g i : Nat} {x : UInt8} {l : List UInt8} {t : TypeId} (h : Bw w g t l) (hx : l[i]? = some x) : (loadVar 5 ⟨g, i, none⟩).run Try.prog w = .ok (.int .u8 (x.toNat : Int)) w := by
  have := h.cell hx
  simp [loadVar, isAgg, run_underlying Try.underlying5, go_sem, this]
/-- Bytes of a literal, behind its mark. -/
theorem HasB.lit (w : World) (l : List UInt8) (t : TypeId) (fr : Nat × Nat) : HasB (w.alloc (.cells (cellsB l).toArray t fr)) (w.heap.size + 1) (some ⟨w.heap.size, 0, none⟩) l.length l :=
  ⟨rfl, fun _ => ⟨w.heap.size, 0, rfl, by omega, fun i b hb => by
    rw [cell_of_row _ _ _ _ t fr (heap_alloc_new w _)]
    simp [cellsB, hb]⟩⟩
theorem Src.of_has {w : World} {g B n : Nat} {A : Option Addr} {l : List UInt8} (h : HasB w B A n l) (hB : B ≤ w.heap.size) (hne : ∀ k o, A = some ⟨k, o, none⟩ → k ≠ g) : Src w g A n l :=
  ⟨h.1, fun hn => by
    obtain ⟨k, o, e, hk, hc⟩ := h.2 hn
    exact ⟨k, o, e, hne k o e, by omega, hc⟩⟩

def RetTrue (w : World) (e : Ending) (w' : World) : Prop := e = .returned (.bool true) ∧ Below w.heap.size w w'
end Go.Proofs.Ytkpmfpbeidhcbaa
