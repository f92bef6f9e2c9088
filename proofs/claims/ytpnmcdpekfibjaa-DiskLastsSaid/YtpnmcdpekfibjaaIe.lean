/-
  Own work. Arrays of bytes held against each other; loads and stores behind a guard.
-/
import Derived.Test.YtpnmcdpekfibjaaBw
namespace Go.Proofs.Ytpnmcdpekfibjaa
open Go.RowKit
set_option linter.unusedVariables false
set_option linter.unusedSimpArgs false

theorem mapM_all {α β : Type} (f : α → Option β) (g : α → β) : ∀ l : List α, (∀ a ∈ l, f a = some (g a)) → l.mapM f = some (l.map g)
  | [], _ => by simp
  | a :: l, h => by
    rw [List.mapM_cons, h a (by simp), mapM_all f g l (fun b hb => h b (by simp [hb]))]
    rfl
theorem flat_one {α β : Type} (f : α → β) : ∀ l : List α, (l.map fun x => [f x]).flatten = l.map f
  | [] => rfl
  | a :: l => by simp [flat_one f l]
theorem range_getD (zs : List Int) : (List.range zs.length).map (fun i => zs.getD i 0) = zs := by
  apply List.ext_getElem
  · simp
  · intro i h1 h2
    simp [List.getD, h2]

theorem keyLits_ints {P : Program} {t e : TypeId} {n : Nat} {k : IntKind} (hu : P.underlying t = some (.array n e)) (he : P.underlying e = some (.int k)) (hC : P.cellsOf t = n) (hce : P.cellsOf e = 1)
    (zs : List Int) (hz : zs.length = n) (hwf : ∀ z ∈ zs, (Lit.int k z).wf = true) (d : Nat) : P.keyLits (d + 2) t (zs.map (Value.int k)) = some (zs.map (Lit.int k)) := by
  have key : ∀ i ∈ List.range n, P.keyLits (d + 1) e (((zs.map (Value.int k)).drop (i * P.cellsOf e)).take (P.cellsOf e)) = some [Lit.int k (zs.getD i 0)] := by
    intro i hi
    have hi' : i < zs.length := by rw [hz]; simpa using hi
    have e1 : ((zs.map (Value.int k)).drop (i * P.cellsOf e)).take (P.cellsOf e) = [Value.int k zs[i]] := by
      rw [hce, Nat.mul_one, List.drop_eq_getElem_cons (by simpa using hi')]
      simp
    rw [e1]
    unfold Program.keyLits
    simp only [he]
    have hw := hwf _ (List.getElem_mem hi')
    simp [List.getD, hi', hw]
  unfold Program.keyLits
  simp only [hu]
  rw [if_pos (by rw [List.length_map, hz, hC])]
  rw [mapM_all _ _ _ key]
  simp only [Option.map_some]
  rw [flat_one (fun i => Lit.int k (zs.getD i 0))]
  have hr := congrArg (List.map (Lit.int k)) (range_getD zs)
  rw [List.map_map, hz] at hr
  exact congrArg some hr

/-- What '==' says of two arrays of integers. -/
theorem eql_ints {P : Program} {t e : TypeId} {n : Nat} {k : IntKind} (hu : P.underlying t = some (.array n e)) (he : P.underlying e = some (.int k)) (hC : P.cellsOf t = n) (hce : P.cellsOf e = 1) (hk : P.keyTypeAt 2 t = true) (hsz : ∀ cs : Array Value, cs.size = n → (Value.agg cs).formed P t = true)
    (xs ys : List Int) (hx : xs.length = n) (hy : ys.length = n) (wx : ∀ z ∈ xs, (Lit.int k z).wf = true) (wy : ∀ z ∈ ys, (Lit.int k z).wf = true) (w : World) :
    (binOp .eql t (.agg (xs.map (Value.int k)).toArray) (.agg (ys.map (Value.int k)).toArray)).run P w = .ok (.bool (decide (xs = ys))) w := by
  obtain ⟨r, hr, hiff⟩ := run_equalIn_deep (P := P) 9998 2 t hk w 2 2 (.agg (xs.map (Value.int k)).toArray) (.agg (ys.map (Value.int k)).toArray) _ _ (hsz _ (by simp [hx])) (hsz _ (by simp [hy]))
    (keyLits_ints hu he hC hce xs hx wx 0) (keyLits_ints hu he hC hce ys hy wy 0)
  have hl : (xs.map (Lit.int k) = ys.map (Lit.int k)) ↔ xs = ys := by
    constructor
    · intro h
      have := congrArg (List.map fun l => match l with | Lit.int _ z => z | _ => 0) h
      simpa [List.map_map, Function.comp_def] using this
    · rintro rfl; rfl
  have hd : r = decide (xs = ys) := by
    rw [Bool.eq_iff_iff, hiff, hl]; simp
  have he2 : (Op.equal t (.agg (xs.map (Value.int k)).toArray) (.agg (ys.map (Value.int k)).toArray)).run P w = .ok r w := hr
  simp only [binOp, Sem.run_bind, he2, Result.andThen_ok, Sem.run_pure, hd]
theorem bytes_ints (b : List UInt8) : cellsB b = (b.map fun x => (x.toNat : Int)).map (Value.int .u8) := by simp [cellsB]
theorem wf_u8 (b : List UInt8) : ∀ z ∈ b.map (fun x => (x.toNat : Int)), (Lit.int .u8 z).wf = true := by
  intro z hz
  obtain ⟨x, hx, rfl⟩ := List.mem_map.1 hz
  have := x.toNat_lt
  have hm : IntKind.u8.min = 0 := rfl
  have hM : IntKind.u8.max = 255 := rfl
  simp [Lit.wf, hm, hM]
  omega

/-- A whole struct or array loaded, an array built, two arrays held against each other, behind a guard or not. -/
theorem wpList_load_rowG {P : Program} {ops : Array Oper} {rest : List Oper} {o : Oper} {a : Act} {w : World} {Q : Exit → Act → World → Prop} (hw : Region.wanted o (yielded ops a.tmps) = true) (ty : TypeId) (x : Operand) (ho : o.op = .load ty x)
    (g : Nat) (hx : a.eval x = .pointer (some ⟨g, 0, none⟩)) (v : Value) (hl : (loadVar ty ⟨g, 0, none⟩).run P w = .ok v w)
    (h : wpList P ops Q rest (a.put o.dst v) w) : wpList P ops Q (o :: rest) a w := by
  refine BigFrame.wpList_want hw fun K hK => ?_
  unfold Oper.wp execOp
  simp only [ho, hx, Instr.loadAt, Instr.sureAddr, Sem.run_bind, Sem.run_pure, Result.andThen_ok, hl]
  exact hK _ _ h
theorem wpList_buildG {P : Program} {ops : Array Oper} {rest : List Oper} {o : Oper} {a : Act} {w : World} {Q : Exit → Act → World → Prop} (hw : Region.wanted o (yielded ops a.tmps) = true) (t : TypeId) (ho : o.op = .build t #[])
    (cells : Array Value) (hf : P.built t [] = some cells) (h : wpList P ops Q rest (a.put o.dst (.agg cells)) w) : wpList P ops Q (o :: rest) a w := by
  refine BigFrame.wpList_want hw fun K hK => ?_
  unfold Oper.wp execOp
  simp only [ho, Sem.run_bind, List.map_toArray, List.map_nil, run_build w t _ _ hf, Result.andThen_ok]
  exact hK _ _ h
theorem wpList_eqlG {P : Program} {ops : Array Oper} {rest : List Oper} {o : Oper} {a : Act} {w : World} {Q : Exit → Act → World → Prop} (hw : Region.wanted o (yielded ops a.tmps) = true) (t u : TypeId) (x y : Operand) (ho : o.op = .binOp .eql t x y u)
    (X Y : Value) (r : Bool) (hx : a.eval x = X) (hy : a.eval y = Y) (hg : (eqGuard .eql t x y X Y).run P w = .ok () w) (hb : (binOp .eql t X Y).run P w = .ok (.bool r) w)
    (h : wpList P ops Q rest (a.put o.dst (.bool r)) w) : wpList P ops Q (o :: rest) a w := by
  refine BigFrame.wpList_want hw fun K hK => ?_
  unfold Oper.wp execOp
  simp only [ho, hx, hy, Sem.run_bind, Sem.run_pure, Result.andThen_ok, hg, hb]
  exact hK _ _ h
theorem bytes_inj : ∀ {l m : List UInt8}, l.map (fun x => (x.toNat : Int)) = m.map (fun x => (x.toNat : Int)) → l = m
  | [], [], _ => rfl
  | [], _ :: _, h => by simp at h
  | _ :: _, [], h => by simp at h
  | a :: l, b :: m, h => by
    simp only [List.map_cons, List.cons.injEq] at h
    have h1 : a.toNat = b.toNat := by omega
    rw [bytes_inj h.2, UInt8.toNat_inj.1 h1]
theorem Bw.load1 {w : World} {g i : Nat} {x : UInt8} {l : List UInt8} {t : TypeId} (h : Bw w g t l) (hx : l[i]? = some x) : (loadVar 5 ⟨g, i, none⟩).run Try.prog w = .ok (.int .u8 (x.toNat : Int)) w := by
  have := h.cell hx
  simp [loadVar, isAgg, run_underlying Try.underlying5, go_sem, this]
/-- Bytes of a literal, behind its mark. -/
theorem HasB.lit (w : World) (l : List UInt8) (t : TypeId) (fr : Nat × Nat) : HasB (w.alloc (.cells (cellsB l).toArray t fr)) (w.heap.size + 1) (some ⟨w.heap.size, 0, none⟩) l.length l :=
  ⟨rfl, fun _ => ⟨w.heap.size, 0, rfl, by omega, fun i b hb => by
    rw [cell_of_row _ _ _ _ t fr (heap_alloc_new w _)]
    simp [cellsB, hb]⟩⟩
def RetTrue (w : World) (e : Ending) (w' : World) : Prop := e = .returned (.bool true) ∧ Below w.heap.size w w'
theorem Bw.has {w : World} {g n : Nat} {t : TypeId} {l : List UInt8} (h : Bw w g t l) (hn : n = l.length) : HasB w w.heap.size (some ⟨g, 0, none⟩) n l :=
  ⟨hn, fun _ => ⟨g, 0, rfl, h.lt, fun i b hb => by rw [Nat.zero_add]; exact h.cell hb⟩⟩
theorem bw_second (w : World) (a b : List UInt8) (t u : TypeId) : Bw ((w.alloc (.cells (cellsB a).toArray t)).alloc (.cells (cellsB b).toArray u)) (w.heap.size + 1) u b := by
  have := Bw.new (w.alloc (.cells (cellsB a).toArray t)) b u
  simpa using this

end Go.Proofs.Ytpnmcdpekfibjaa
