/-
  Own work. A word out of an array that is a value.
-/
import Derived.Test.YtadagbkfemcgfaaMb
import Derived.ChangeKeysEq
namespace Go.Proofs.Ytadagbkfemcgfaa
open Go.RowKit
set_option linter.unusedVariables false
theorem wpList_index_row {P : Program} {ops : Array Oper} {rest : List Oper} {o : Oper} {a : Act} {w : World} {Q : Exit → Act → World → Prop} (hgd : o.guard = none) (t e : TypeId) (x y : Operand) (ho : o.op = .index t x y)
    (cs : Array Value) (k : IntKind) (n i : Nat) (v : Value) (hx : a.eval x = .agg cs) (hy : a.eval y = .int k (i : Int)) (hu : P.underlying t = some (.array n e)) (hi : i < n) (hsz : (P.info? e).map (·.size) = some 1) (hp : P.plainKey e = true)
    (hv : cs[i]? = some v) (h : wpList P ops Q rest (a.put o.dst v) w) : wpList P ops Q (o :: rest) a w := by
  refine wpList_plain hgd fun K hK => ?_
  cases hq : P.info? e with
  | none => simp [hq] at hsz
  | some ie =>
    have hs : ie.size = 1 := by simpa [hq] using hsz
    have hpart := run_part_plain (P := P) w hp hv
    unfold Oper.wp
    simp [execOp, ho, hx, hy, Instr.index, run_underlying hu, asIntOf, hi, sizeOf, typeInfo, hq, hs, hpart, Result.andThen]
    exact hK _ _ h
theorem plainU32 : Try.prog.plainKey 92 = true := by kernel_rfl
end Go.Proofs.Ytadagbkfemcgfaa
