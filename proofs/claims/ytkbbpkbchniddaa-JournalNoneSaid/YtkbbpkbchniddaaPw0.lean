/-
  Own work. slices.Clone at bytes; steps for the program's disk's Write.
-/
import Derived.Test.YtkbbpkbchniddaaPe
import Derived.Lib.SliceRun
namespace Go.Proofs.Ytkbbpkbchniddaa
open Go.RowKit Go.Maps
set_option linter.unusedVariables false
set_option linter.unusedSimpArgs false

/-! ### slices.Clone at bytes -/
set_option maxRecDepth 100000 in
theorem cloneB_any (A : Option Addr) (n c : Nat) (l : List UInt8) (w : World) (h : HasB w w.heap.size A n l) (hn : n ≤ 1073741824) :
    Calls Try.prog 94 #[.slice A n c] w (RetB w l) := by
  have hl := h.len
  have qS : ∀ (w : World) (a : Option Addr) (n c n' c' : Nat), (binOp .eql 39 (.slice a n c) (.slice none n' c')).run Try.prog w = .ok (.bool a.isNone) w := fun w a n c n' c' => Lib.run_eql_slice_nil w _ _ a n c n' c' Try.underlying39
  cases A with
  | none =>
    have h0 : ¬ 0 < n := fun hp => by obtain ⟨g, o, e, _⟩ := h.2 hp; cases e
    have hnil : l = [] := List.eq_nil_of_length_eq_zero (by omega)
    subst hnil
    clear h
    go_enter Try.func94, Try.ntmps94
    go_wp2_with fail
    go_ret
    exact ⟨_, _, _, rfl, OwnB.nil _ _, Below.refl _ _⟩
  | some ad =>
    have H := Lib.hid h
    have HL := Lib.hid hl
    clear h hl
    go_enter Try.func94, Try.ntmps94
    go_wp2_with (at_builtin; refine wp_app rfl (.tmp 5) (.tmp 6) rfl Try.underlying39 infoU8 w.heap.size _ [] l rfl (OwnB.empty w) w.heap.size (some ad) n c rfl (H.out.alloc (Nat.le_refl _) _) (by rw [← HL.out]; simp; omega) (by simp) ?_; intro A2 n2 c2 w2 hown2 hg2 hb2)
    go_ret
    exact ⟨_, _, _, rfl, hown2, ((Below.refl _ w).alloc (Nat.le_refl _) _).trans hb2⟩

/-! ### Steps of a region -/
section
variable {P : Program} {ops : Array Oper} {o : Oper} {a : Act} {S : World → Prop}
theorem yieldsIf_arrayAt (hw : Region.wanted o (yielded ops a.tmps) = true) (arr el : TypeId) (n : Nat) (x : Operand) (ho : o.op = .sliceToArrayPointer arr x)
    (hu : P.underlying arr = some (.array n el)) (A : Option Addr) (len cap : Nat) (hx : a.eval x = .slice A len cap) (hn : n ≤ len) : YieldsIf P ops S o (.pointer A) a := by
  refine Or.inl ⟨hw, fun w hS => ?_⟩
  have hr : (Instr.arrayAt arr (.slice A len cap)).run P w = .ok (.pointer A) w := by
    unfold Instr.arrayAt
    simp [run_underlying hu, Nat.not_lt.2 hn]
  unfold execOp
  simp only [ho, hx, Sem.run_bind, Sem.run_pure, Result.andThen_ok, hr]
end
theorem load_map {W : World} {ad : Addr} {b : Nat} (h : W.cell? ad = some (.map (some b))) : (loadVar 89 ad).run Try.prog W = .ok (.map (some b)) W := by
  simp [loadVar, isAgg, run_underlying Try.underlying89, go_sem, h]
theorem load_secs {W : World} {ad : Addr} {A : Option Addr} {n c : Nat} (h : W.cell? ad = some (.slice A n c)) : (loadVar 88 ad).run Try.prog W = .ok (.slice A n c) W := by
  simp [loadVar, isAgg, run_underlying Try.underlying88, go_sem, h]
/-- 512 bytes from anywhere, as an array. -/
def At512 (W : World) (gb ob : Nat) (l : List UInt8) : Prop := ∀ i b, l[i]? = some b → W.cell? ⟨gb, ob + i, none⟩ = some (.int .u8 (b.toNat : Int))
theorem load_secB {W : World} {gb ob : Nat} {l : List UInt8} (h : At512 W gb ob l) (hl : l.length = 512) : (loadVar 104 ⟨gb, ob, none⟩).run Try.prog W = .ok (.agg (cellsB l).toArray) W := by
  have hc : (loadCells ⟨gb, ob, none⟩ (cellsB l).length).run Try.prog W = .ok (cellsB l).toArray W :=
    run_loadCells_list (P := Try.prog) W ⟨gb, ob, none⟩ (cellsB l) (fun j v hv => by
      obtain ⟨b, hb, rfl⟩ := cellsB_at hv
      rw [Addr.add_lit]
      exact h j b hb)
  rw [cellsB_length, hl] at hc
  have hi := infoSec
  cases hq : Try.prog.info? 104 with
  | none => simp [hq] at hi
  | some i =>
    have hs : i.size = 512 := by simpa [hq] using hi
    have hagg : (isAgg 104).run Try.prog W = .ok true W := by
      unfold isAgg
      rw [Sem.run_bind, run_underlying Try.underlying104 W]
      rfl
    simp [loadVar, Sem.run_bind, hagg, sizeOf, typeInfo, hq, hs, hc]
theorem At512.keepB {W W' : World} {gb ob : Nat} {l : List UInt8} (h : At512 W gb ob l) (hg : gb < W.heap.size) (hb : Below W.heap.size W W') : At512 W' gb ob l :=
  fun i b hi => (hb.cell (p := ⟨gb, ob + i, none⟩) hg).trans (h i b hi)
theorem HasN.only {w w' : World} {S T : Nat → Prop} {A : Option Addr} {n : Nat} {l : List UInt8} (h : HasN w S A n l) (ho : Only T w w') (hT : ∀ k, ¬ S k → ¬ T k) : HasN w' S A n l :=
  ⟨h.1, fun hn => by
    obtain ⟨g, o, e, hg, hS, hc⟩ := h.2 hn
    refine ⟨g, o, e, Nat.lt_of_lt_of_le hg ho.size, hS, fun i b hi => ?_⟩
    have := hc i b hi
    unfold World.cell? at this ⊢
    rw [ho.block g hg (hT g hS)]
    exact this⟩
theorem HasN.hasB {w : World} {S : Nat → Prop} {A : Option Addr} {n : Nat} {l : List UInt8} (h : HasN w S A n l) : HasB w w.heap.size A n l :=
  ⟨h.1, fun hn => by obtain ⟨g, o, e, hg, _, hc⟩ := h.2 hn; exact ⟨g, o, e, hg, hc⟩⟩
theorem HasN.at_ {w : World} {S : Nat → Prop} {A : Option Addr} {n : Nat} {l : List UInt8} (h : HasN w S A n l) (hn : 0 < n) : ∃ g o, A = some ⟨g, o, none⟩ ∧ g < w.heap.size ∧ ¬ S g ∧ At512 w g o l := h.2 hn
theorem Only.grown {w w' : World} {b : Nat} (h : w.grownBy w' (some b)) : Only (fun j => j = b) w w' :=
  ⟨h.os, h.tape, h.output, h.size, fun k hk hS => h.block k hk (fun e => by injection e with e; exact hS e)⟩

section
variable {S : Nat → Prop} {w w' : World} {g gd gp n : Nat} {m m' : RM} {x x' : PX} {D : DU}
theorem PrD.keepB (h : PrD w g gd gp n m x D) (hb : Below w.heap.size w w') : PrD w' g gd gp n m x D := h.only (Only.of_below (S := fun _ => False) hb (Nat.le_refl _)) (fun _ _ h => h)
/-- m[k] = v, as a step of a region. -/
theorem step_storeS {W : World} {ops : Array Oper} {o : Oper} {a : Act} {K : Act → World → Prop} {Q : Exit → Act → World → Prop} {F : Prop} (hw : Region.wanted o (yielded ops a.tmps) = true) (mo xo vo : Operand)
    (ho : o.op = .mapUpdate 89 mo xo vo) (hm : a.eval mo = .map (some gp)) (k : Nat) (hx : a.eval xo = .int .i64 (k : Int)) (l : List UInt8) (hv : a.eval vo = .agg (cellsB l).toArray)
    (h : PrD W g gd gp n m x D) (ok : m.Ok n) (hl : l.length = 512) (hk : k < n)
    (hK : ∀ w', w'.ownsMap Try.prog 3 secElem gp (m.wrote + 1) (D.put (kI k) (.lit (.string l))) → W.grownBy w' (some gp) → K (a.put o.dst undef) w') :
    if Region.wanted o (yielded ops a.tmps) = true then Oper.wp Try.prog o a W K Q else F := by
  rw [if_pos hw]
  have n2 := ok.n2
  have hwr := ok.wr
  obtain ⟨w', hrun, h1, h2⟩ := h.map.store intK Try.underlying89 (by unfold maxLen; omega) (keyI (i := k) (by omega)) (secElem_mk hl)
  unfold Oper.wp execOp
  simp only [ho, hm, hx, hv, Sem.run_bind, Sem.run_pure, Result.andThen_ok, hrun]
  exact hK w' h1 h2.grown
theorem stillG {P : Program} {o : Oper} {a : Act} {w : World} {K : Act → Prop} {arr : TypeId} {x : Operand} (ho : o.op = .sliceToArrayPointer arr x) {v : Value} (hr : (Instr.arrayAt arr (a.eval x)).run P w = .ok v w) (h : K (a.put o.dst v)) : o.still P a w K := by
  unfold Oper.still execOp
  simp only [ho, Sem.run_bind, Sem.run_pure, Result.andThen_ok, hr]
  exact ⟨rfl, h⟩
theorem stillL {P : Program} {o : Oper} {a : Act} {w : World} {K : Act → Prop} {ty : TypeId} {x : Operand} (ho : o.op = .load ty x) {y : Value} (hy : a.eval x = y) {v : Value} (hr : (Instr.loadAt ty y).run P w = .ok v w) (h : K (a.put o.dst v)) : o.still P a w K := by
  unfold Oper.still execOp
  simp only [ho, hy, Sem.run_bind, Sem.run_pure, Result.andThen_ok, hr]
  exact ⟨rfl, h⟩
/-- A sector is pending now. -/
theorem PrD.stored (h : PrD w g gd gp n m x D) (ok : m.Ok n) {k : Nat} (hk : k < n) {s : ByteArray} (hs : s.size = 512) (h1 : w'.ownsMap Try.prog 3 secElem gp (m.wrote + 1) (D.put (kI k) (.lit (.string (lst s))))) (h2 : Only (fun j => j = gp) w w') :
    PrD (w'.setCell ⟨g, 8, none⟩ (.int .i64 ((m.wrote : Int) + 1))) g gd gp n { m with wait := m.wait.set k s, wrote := m.wrote + 1 } x (D.put (kI k) (.lit (.string (lst s)))) := by
  have hb : w'.heap[g]? = some (.cells (pdC gd gp n m x) 93 (0, 0)) := (h2.block g (Array.getElem?_eq_some_iff.1 h.blk).1 h.d2).trans h.blk
  have o2 : Only (fun j => j = g) w' (w'.setCell ⟨g, 8, none⟩ (.int .i64 ((m.wrote : Int) + 1))) := (Only.refl _ _).cell1 _ _
  refine ⟨?_, ?_, ?_, h.mo.put ok.nw hk (by omega), ?_, h.ar, h.wy, h.d1, h.d2, h.d3, h.dt⟩
  · rw [heap_setCell_same w' g 8 _ _ _ hb]
    rfl
  · exact (o2.block gd (Nat.lt_of_lt_of_le h.row.lt h2.size) (fun e => h.d1 e.symm)).trans ((h2.block gd h.row.lt h.d3).trans h.row)
  · exact ownsMap_only h1 o2 (fun e => h.d2 e.symm)
  · exact (h.tr.only h2 (fun k hk e => (h.dt k hk).2.2 e)).only o2 (fun k hk e => (h.dt k hk).1 e)
/-- A sector is on its way. -/
theorem PrD.onway (h : PrD w g gd gp n m x D) (ok : m.Ok n) {k : Nat} (hk : k < n) {A : Option Addr} {tn tc : Nat} {l : List UInt8} (hb : Below w.heap.size w w') (own : OwnB w' w.heap.size (.slice A tn tc) l) {s : ByteArray} (hs : lst s = l) :
    PrD (w'.setRow g ((pdC gd gp n m x).toList.take 6 ++ [Value.int .i64 (k : Int), Value.slice A tn tc] ++ (pdC gd gp n m x).toList.drop 8).toArray) g gd gp n { m with way := (k : Int), coming := s } { x with sc := (k : Int), TA := A, tn := tn, tc := tc, tl := l } D := by
  have h' := h.keepB hb
  have hlt := h.lt
  have o2 : Only (fun j => j = g) w' (w'.setRow g ((pdC gd gp n m x).toList.take 6 ++ [Value.int .i64 (k : Int), Value.slice A tn tc] ++ (pdC gd gp n m x).toList.drop 8).toArray) := (Only.refl _ _).setRow (S := fun j => j = g) rfl _
  have hg : g < w.heap.size := hlt g (.inl rfl)
  have hgd : gd < w.heap.size := hlt gd (.inr (.inl rfl))
  have hgp : gp < w.heap.size := hlt gp (.inr (.inr (.inl rfl)))
  refine ⟨?_, ?_, ?_, h.mo, ?_, h.ar, ⟨fun hn => ?_, fun _ => ⟨rfl, hs.symm⟩⟩, h.d1, h.d2, h.d3, fun j hj => ?_⟩
  · rw [setRow_heap w' g _ _ _ _ h'.blk]
    rfl
  · exact (o2.block gd h'.row.lt (fun e => h.d1 e.symm)).trans h'.row
  · exact ownsMap_only h'.map o2 (fun e => h.d2 e.symm)
  · exact (own.less (Nat.zero_le _)).only o2 (fun j hj e => by have := (own.lt j hj).1; omega)
  · have : (k : Int) < 0 := hn
    omega
  · have := (own.lt j hj).1
    omega

theorem wpList_build2 {P : Program} {ops : Array Oper} {rest : List Oper} {o : Oper} {a : Act} {w : World} {Q : Exit → Act → World → Prop} (hg : o.guard = none) (t : TypeId) (i j : Nat) (x y : Operand) (ho : o.op = .build t #[(i, x), (j, y)]) (u v : Value) (hx : a.eval x = u) (hy : a.eval y = v)
    (cells : Array Value) (hf : P.built t [(i, u), (j, v)] = some cells) (h : wpList P ops Q rest (a.put o.dst (.agg cells)) w) : wpList P ops Q (o :: rest) a w := by
  refine wpList_plain hg fun K hK => ?_
  unfold Oper.wp execOp
  simp only [ho, Sem.run_bind, List.map_toArray, List.map_cons, List.map_nil, hx, hy, run_build w t _ _ hf, Result.andThen_ok]
  exact hK _ _ h
theorem wpList_storePart {P : Program} {ops : Array Oper} {rest : List Oper} {o : Oper} {a : Act} {w : World} {Q : Exit → Act → World → Prop} (hgd : o.guard = none) (ty : TypeId) (x y : Operand) (ho : o.op = .store ty x y)
    (g off : Nat) (cells : Array Value) (hx : a.eval x = .pointer (some ⟨g, off, none⟩)) (hy : a.eval y = .agg cells)
    (t : TypeId) (cur : Array Value) (hg : w.heap[g]? = some (.cells cur t (0, 0))) (hi : (P.info? ty).map (·.size) = some cells.size) (hfit : off + cells.size ≤ cur.size) (h1 : ∀ v ∈ cells.toList, v.oneCell' = true)
    (h : wpList P ops Q rest (a.put o.dst undef) (w.setRow g (cur.toList.take off ++ cells.toList ++ cur.toList.drop (off + cells.size)).toArray)) : wpList P ops Q (o :: rest) a w :=
  wpList_plain hgd fun _ hK => wp_store_part ty x y ho g off cells hx hy t cur hg hi hfit h1 (hK _ _ h)
theorem builtTear (i : Int) (A : Option Addr) (n c : Nat) : Try.prog.built 91 [(0, .int .i64 i), (1, .slice A n c)] = some #[.int .i64 i, .slice A n c] := by kernel_rfl
theorem tear_ones (i : Int) (A : Option Addr) (n c : Nat) : ∀ v ∈ (#[Value.int .i64 i, .slice A n c] : Array Value).toList, v.oneCell' = true := by
  intro v hv
  simp only [List.mem_cons, List.not_mem_nil, or_false] at hv
  rcases hv with rfl | rfl <;> rfl
theorem infoTear : (Try.prog.info? 91).map (·.size) = some 2 := by kernel_rfl

end
end Go.Proofs.Ytkbbpkbchniddaa
