/-
  Own work. Arrays of integers held against each other.
-/
import Derived.Test.YtkpmfpbeidhcbaaIx
import Derived.DeepKeys
namespace Go.Proofs.Ytkpmfpbeidhcbaa
open Go.RowKit
set_option linter.unusedVariables false

theorem mapM_all {α β : Type} (f : α → Option β) (g : α → β) : ∀ l : List α, (∀ a ∈ l, f a = some (g a)) → l.mapM f = some (l.map g)
  | [], _ => by simp
  | a :: l, h => by
    rw [List.mapM_cons, h a (by simp), mapM_all f g l (fun b hb => h b (by simp [hb]))]
    rfl
theorem flat_one {α β : Type} (f : α → β) : ∀ l : List α, (l.map fun x => [f x]).flatten = l.map f
  | [] => rfl
  | a :: l => by simp [flat_one f l]
theorem range_getD (zs : List Int) : (List.range zs.length).map (fun i => zs.getD i 0) = zs := by
  apply List.ext_getElem
  · simp
  · intro i h1 h2
    simp [List.getD, h2]

theorem keyLits_ints {P : Program} {t e : TypeId} {n : Nat} {k : IntKind} (hu : P.underlying t = some (.array n e)) (he : P.underlying e = some (.int k)) (hC : P.cellsOf t = n) (hce : P.cellsOf e = 1)
    (zs : List Int) (hz : zs.length = n) (hwf : ∀ z ∈ zs, (Lit.int k z).wf = true) (d : Nat) : P.keyLits (d + 2) t (zs.map (Value.int k)) = some (zs.map (Lit.int k)) := by
  have key : ∀ i ∈ List.range n, P.keyLits (d + 1) e (((zs.map (Value.int k)).drop (i * P.cellsOf e)).take (P.cellsOf e)) = some [Lit.int k (zs.getD i 0)] := by
    intro i hi
    have hi' : i < zs.length := by rw [hz]; simpa using hi
    have e1 : ((zs.map (Value.int k)).drop (i * P.cellsOf e)).take (P.cellsOf e) = [Value.int k zs[i]] := by
      rw [hce, Nat.mul_one, List.drop_eq_getElem_cons (by simpa using hi')]
      simp
    rw [e1]
    unfold Program.keyLits
    simp only [he]
    have hw := hwf _ (List.getElem_mem hi')
    simp [List.getD, hi', hw]
  unfold Program.keyLits
  simp only [hu]
  rw [if_pos (by rw [List.length_map, hz, hC])]
  rw [mapM_all _ _ _ key]
  simp only [Option.map_some]
  rw [flat_one (fun i => Lit.int k (zs.getD i 0))]
  have hr := congrArg (List.map (Lit.int k)) (range_getD zs)
  rw [List.map_map, hz] at hr
  exact congrArg some hr

/-- What '==' says of two arrays of integers. -/
theorem eql_ints {P : Program} {t e : TypeId} {n : Nat} {k : IntKind} (hu : P.underlying t = some (.array n e)) (he : P.underlying e = some (.int k)) (hC : P.cellsOf t = n) (hce : P.cellsOf e = 1) (hk : P.keyTypeAt 2 t = true) (hsz : ∀ cs : Array Value, cs.size = n → (Value.agg cs).formed P t = true)
    (xs ys : List Int) (hx : xs.length = n) (hy : ys.length = n) (wx : ∀ z ∈ xs, (Lit.int k z).wf = true) (wy : ∀ z ∈ ys, (Lit.int k z).wf = true) (w : World) :
    (binOp .eql t (.agg (xs.map (Value.int k)).toArray) (.agg (ys.map (Value.int k)).toArray)).run P w = .ok (.bool (decide (xs = ys))) w := by
  obtain ⟨r, hr, hiff⟩ := run_equalIn_deep (P := P) 9998 2 t hk w 2 2 (.agg (xs.map (Value.int k)).toArray) (.agg (ys.map (Value.int k)).toArray) _ _ (hsz _ (by simp [hx])) (hsz _ (by simp [hy]))
    (keyLits_ints hu he hC hce xs hx wx 0) (keyLits_ints hu he hC hce ys hy wy 0)
  have hl : (xs.map (Lit.int k) = ys.map (Lit.int k)) ↔ xs = ys := by
    constructor
    · intro h
      have := congrArg (List.map fun l => match l with | Lit.int _ z => z | _ => 0) h
      simpa [List.map_map, Function.comp_def] using this
    · rintro rfl; rfl
  have hd : r = decide (xs = ys) := by
    rw [Bool.eq_iff_iff, hiff, hl]; simp
  have he2 : (Op.equal t (.agg (xs.map (Value.int k)).toArray) (.agg (ys.map (Value.int k)).toArray)).run P w = .ok r w := hr
  simp only [binOp, Sem.run_bind, he2, Result.andThen_ok, Sem.run_pure, hd]
end Go.Proofs.Ytkpmfpbeidhcbaa
