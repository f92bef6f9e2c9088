/-
  Own work. Steps of a region that draws: a conversion, an append, the load of a slice.
-/
import Derived.Test.YtkpmfpbeidhcbaaId
namespace Go.Proofs.Ytkpmfpbeidhcbaa
open Go.RowKit
set_option linter.unusedVariables false
set_option linter.unusedSimpArgs false

section
variable {P : Program} {ops : Array Oper} {o : Oper} {a : Act} {S : World → Prop}
theorem yieldsIf_conv (hw : Region.wanted o (yielded ops a.tmps) = true) (t u : TypeId) (x : Operand) (ho : o.op = .convert t u x) (X V : Value) (hx : a.eval x = X) (h : ∀ w, S w → (convert t u X).run P w = .ok V w) : YieldsIf P ops S o V a := by
  refine Or.inl ⟨hw, fun w hS => ?_⟩
  unfold execOp
  simp only [ho, hx, Sem.run_bind, Result.andThen_ok, h w hS, Sem.run_pure]
/-- append, as one step of a region. -/
theorem step_app {w : World} {K : Act → World → Prop} {Q : Exit → Act → World → Prop} {E : Prop} (hw : Region.wanted o (yielded ops a.tmps) = true) (s x : Operand)
    (ho : o.op = .call { callee := .builtin .append, args := #[s, x], argTypes := #[22, 22] })
    (ht : P.underlying 22 = some (.slice 5)) (hi0 : (P.info? 5).map (fun i => (i.zero, i.size, i.bytes)) = some (some (.int .u8 0), 1, 1))
    (base : Nat) (v : Value) (l m : List UInt8) (hs : a.eval s = v) (hown : OwnB w base v l) (B : Nat) (A : Option Addr) (n c : Nat) (hx : a.eval x = .slice A n c) (hm : HasB w B A n m)
    (hlen : l.length + m.length ≤ 140737488355328) (hbase : base ≤ w.heap.size)
    (h : ∀ A' n' c' w', OwnB w' base (.slice A' n' c') (l ++ m) → Below base w w' → K (a.put o.dst (.slice A' n' c')) w') :
    if Region.wanted o (yielded ops a.tmps) = true then Oper.wp P o a w K Q else E := by
  rw [if_pos hw]
  obtain ⟨A', n', c', w', hrun, h2, h3⟩ := run_app (P := P) (w := w) o.type ht hi0 base v l m hown B A n c hm hlen hbase
  unfold Oper.wp execOp
  simp only [ho, resolve, invoke, builtin, Sem.run_bind, Sem.run_pure, Result.andThen_ok, List.map_toArray, List.map_cons, List.map_nil, hs, hx, hrun]
  exact h A' n' c' w' h2 (below_of_grown hown h3 hbase)
end
theorem load_slice {W : World} {ad : Addr} {A : Option Addr} {n c : Nat} (h : W.cell? ad = some (.slice A n c)) : (loadVar 22 ad).run Try.prog W = .ok (.slice A n c) W := by
  simp [loadVar, isAgg, run_underlying Try.underlying22, go_sem, h]
end Go.Proofs.Ytkpmfpbeidhcbaa
