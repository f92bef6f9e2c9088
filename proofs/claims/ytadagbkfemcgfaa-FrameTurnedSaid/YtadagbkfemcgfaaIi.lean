/-
  Own work. Arrays of type api.ID: held against each other, loaded, stored.
-/
import Derived.Test.YtadagbkfemcgfaaG1
namespace Go.Proofs.Ytadagbkfemcgfaa
open Go.RowKit
set_option linter.unusedVariables false
set_option linter.unusedSimpArgs false

theorem infoID : (Try.prog.info? 23).map (·.size) = some 32 := by kernel_rfl

/-- What '==' says of two answers. -/
theorem eql_id (l m : List UInt8) (hl : l.length = 32) (hm : m.length = 32) (w : World) :
    (binOp .eql 23 (.agg (cellsB l).toArray) (.agg (cellsB m).toArray)).run Try.prog w = .ok (.bool (decide (l = m))) w := by
  have c : Try.prog.cellsOf 23 = 32 := by kernel_rfl
  have := eql_ints (P := Try.prog) Try.underlying23 Try.underlying5 c (by kernel_rfl) (by kernel_rfl) (fun cs hcs => by
    unfold Value.formed
    simp only [Try.underlying23, hcs, c]
    rfl) (l.map fun x => (x.toNat : Int)) (m.map fun x => (x.toNat : Int)) (by simp [hl]) (by simp [hm]) (wf_u8 l) (wf_u8 m) w
  rw [← bytes_ints, ← bytes_ints] at this
  have e : (decide (l.map (fun x => (x.toNat : Int)) = m.map (fun x => (x.toNat : Int)))) = decide (l = m) := decide_eq_decide.2 ⟨bytes_inj, fun h => by rw [h]⟩
  rw [this, e]
theorem eql_id_same (l : List UInt8) (hl : l.length = 32) (w : World) :
    (binOp .eql 23 (.agg (cellsB l).toArray) (.agg (cellsB l).toArray)).run Try.prog w = .ok (.bool true) w := by
  rw [eql_id l l hl hl w, decide_eq_true rfl]
theorem guard_id (xs ys : Array Value) (x y : Operand) (w : World) : (eqGuard .eql 23 x y (.agg xs) (.agg ys)).run Try.prog w = .ok () w := by
  unfold eqGuard
  simp

theorem Bw.load {w : World} {g : Nat} {l : List UInt8} (h : Bw w g 23 l) (hl : l.length = 32) : (loadVar 23 ⟨g, 0, none⟩).run Try.prog w = .ok (.agg (cellsB l).toArray) w :=
  run_loadVar_row w g _ 23 _ (0, 0) _ h Try.underlying23 rfl (by rw [cellsB_size, hl]; exact infoID)
theorem id_iv (l : List UInt8) (hl : l.length = 32) : (Try.prog.info? 23).map (·.size) = some (cellsB l).toArray.size := by rw [cellsB_size, hl]; exact infoID
theorem id_hz (l : List UInt8) (hl : l.length = 32) : (cellsB (zer 32)).toArray.size = (cellsB l).toArray.size := by rw [cellsB_size, cellsB_size, hl, zer_len]

theorem neq_id_same (l : List UInt8) (hl : l.length = 32) (w : World) :
    (binOp .neq 23 (.agg (cellsB l).toArray) (.agg (cellsB l).toArray)).run Try.prog w = .ok (.bool false) w := by
  have h := eql_id_same l hl w
  simp only [binOp, Sem.run_bind] at h ⊢
  revert h
  cases (Op.equal 23 (.agg (cellsB l).toArray) (.agg (cellsB l).toArray)).run Try.prog w with
  | ok r w' =>
    intro h
    simp only [Result.andThen_ok, Sem.run_pure, Result.ok.injEq, Value.bool.injEq] at h
    obtain ⟨rfl, rfl⟩ := h
    rfl
  | _ => intro h; simp [Result.andThen] at h
theorem guard_neq_id (xs ys : Array Value) (x y : Operand) (w : World) : (eqGuard .neq 23 x y (.agg xs) (.agg ys)).run Try.prog w = .ok () w := by
  unfold eqGuard
  simp
end Go.Proofs.Ytadagbkfemcgfaa
