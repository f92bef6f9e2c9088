/-
  Own work.
-/
import Derived.Test.YthoebjekkfhhgaaGreatG1
set_option linter.unusedVariables false
set_option linter.unusedSimpArgs false
namespace Go.Proofs.YthoebjekkfhhgaaGreat
open Go.RowKit
theorem infoID : (Tryz.prog.info? 56).map (·.size) = some 32 := by kernel_rfl
theorem eql_id (l m : List UInt8) (hl : l.length = 32) (hm : m.length = 32) (w : World) :
 (binOp .eql 56 (.agg (cellsB l).toArray) (.agg (cellsB m).toArray)).run Tryz.prog w = .ok (.bool (decide (l = m))) w := by
 have c : Tryz.prog.cellsOf 56 = 32 := by kernel_rfl
 have := eql_ints (P := Tryz.prog) Tryz.underlying56 Tryz.underlying5 c (by kernel_rfl) (by kernel_rfl) (fun cs hcs => by
  unfold Value.formed
  simp only [Tryz.underlying56, hcs, c]
  rfl) (l.map fun x => (x.toNat : Int)) (m.map fun x => (x.toNat : Int)) (by simp [hl]) (by simp [hm]) (wf_u8 l) (wf_u8 m) w
 rw [<- bytes_ints, <- bytes_ints] at this
 have e : (decide (l.map (fun x => (x.toNat : Int)) = m.map (fun x => (x.toNat : Int)))) = decide (l = m) := decide_eq_decide.2 ⟨bytes_inj, fun h => by rw [h]⟩
 rw [this, e]
theorem eql_id_same (l : List UInt8) (hl : l.length = 32) (w : World) :
 (binOp .eql 56 (.agg (cellsB l).toArray) (.agg (cellsB l).toArray)).run Tryz.prog w = .ok (.bool true) w := by
 rw [eql_id l l hl hl w, decide_eq_true rfl]
theorem Bw.load {w : World} {g : Nat} {l : List UInt8} (h : Bw w g 56 l) (hl : l.length = 32) : (loadVar 56 ⟨g, 0, none⟩).run Tryz.prog w = .ok (.agg (cellsB l).toArray) w :=
 run_loadVar_row w g _ 56 _ (0, 0) _ h Tryz.underlying56 rfl (by rw [cellsB_size, hl]; exact infoID)
theorem id_iv (l : List UInt8) (hl : l.length = 32) : (Tryz.prog.info? 56).map (·.size) = some (cellsB l).toArray.size := by rw [cellsB_size, hl]; exact infoID
theorem id_hz (l : List UInt8) (hl : l.length = 32) : (cellsB (zer 32)).toArray.size = (cellsB l).toArray.size := by rw [cellsB_size, cellsB_size, hl, zer_len]
theorem neq_id_same (l : List UInt8) (hl : l.length = 32) (w : World) :
 (binOp .neq 56 (.agg (cellsB l).toArray) (.agg (cellsB l).toArray)).run Tryz.prog w = .ok (.bool false) w := by
 have h := eql_id_same l hl w
 simp only [binOp, Sem.run_bind] at h ⊢
 revert h
 cases (Op.equal 56 (.agg (cellsB l).toArray) (.agg (cellsB l).toArray)).run Tryz.prog w with
 | ok r w' =>
   intro h
   simp only [Result.andThen_ok, Sem.run_pure, Result.ok.injEq, Value.bool.injEq] at h
   obtain ⟨rfl, rfl⟩ := h
   rfl
 | _ => intro h; simp [Result.andThen] at h
theorem guard_neq_id (xs ys : Array Value) (x y : Operand) (w : World) : (eqGuard .neq 56 x y (.agg xs) (.agg ys)).run Tryz.prog w = .ok () w := by
 unfold eqGuard
 simp
end Go.Proofs.YthoebjekkfhhgaaGreat
