/-
  Own work. The journal: changesOf, store.
-/
import Derived.Test.YtadagbkfemcgfaaGreatJu
namespace Go.Proofs.YtadagbkfemcgfaaGreat
open Go.RowKit Go.Maps
set_option linter.unusedVariables false
set_option linter.unusedSimpArgs false

theorem stillBd {o : Oper} {a : Act} {w : World} {K : Act → Prop} {t : TypeId} {i j : Nat} {x y : Operand} (ho : o.op = .build t #[(i, x), (j, y)]) {u v : Value} (hx : a.eval x = u) (hy : a.eval y = v) {cells : Array Value}
    (hf : Tryz.prog.built t [(i, u), (j, v)] = some cells) (h : K (a.put o.dst (.agg cells))) : o.still Tryz.prog a w K := by
  unfold Oper.still execOp
  simp only [ho, Sem.run_bind, List.map_toArray, List.map_cons, List.map_nil, hx, hy, run_build w t _ _ hf, Result.andThen_ok]
  exact ⟨rfl, h⟩
theorem load_secH {w : World} {B g o n : Nat} {l : List UInt8} (h : HasB w B (some ⟨g, o, none⟩) n l) (hl : l.length = 512) : (loadVar 98 ⟨g, o, none⟩).run Tryz.prog w = .ok (.agg (cellsB l).toArray) w := by
  obtain ⟨g', o', e, _, hc⟩ := h.2 (by have := h.1; omega)
  simp only [Option.some.injEq, Addr.mk.injEq, and_true] at e
  obtain ⟨rfl, rfl⟩ := e
  have hc' : (loadCells ⟨g, o, none⟩ (cellsB l).length).run Tryz.prog w = .ok (cellsB l).toArray w :=
    run_loadCells_list (P := Tryz.prog) w ⟨g, o, none⟩ (cellsB l) (fun j v hv => by
      obtain ⟨b, hb, rfl⟩ := cellsB_at hv
      rw [Addr.add_lit]
      exact hc j b hb)
  cases hq : Tryz.prog.info? 98 with
  | none => have := infoJsec; rw [hq] at this; cases this
  | some i =>
    have hs : i.size = (cellsB l).length := by have := infoJsec; rw [hq] at this; rw [cellsB_length, hl]; simpa using this
    simp [loadVar, Sem.run_bind, isAgg, run_underlying Tryz.underlying98 w, sizeOf, typeInfo, hq, hs, hc']
theorem yieldsIf_arr {ops : Array Oper} {o : Oper} {a : Act} {S : World → Prop} (hw : Region.wanted o (yielded ops a.tmps) = true) (arr : TypeId) (x : Operand) (ho : o.op = .sliceToArrayPointer arr x) (X v : Value) (hx : a.eval x = X) (hl : ∀ w, (Instr.arrayAt arr X).run Tryz.prog w = .ok v w) : YieldsIf Tryz.prog ops S o v a := by
  refine Or.inl ⟨hw, fun w hS => ?_⟩
  unfold execOp
  simp only [ho, hx, Sem.run_bind, Sem.run_pure, Result.andThen_ok, hl w]
theorem yieldsIf_bd2 {ops : Array Oper} {o : Oper} {a : Act} {S : World → Prop} (hw : Region.wanted o (yielded ops a.tmps) = true) (t : TypeId) (i j : Nat) (x y : Operand) (ho : o.op = .build t #[(i, x), (j, y)]) (u v : Value) (hx : a.eval x = u) (hy : a.eval y = v) (cells : Array Value)
    (hf : Tryz.prog.built t [(i, u), (j, v)] = some cells) : YieldsIf Tryz.prog ops S o (.agg cells) a := by
  refine Or.inl ⟨hw, fun w hS => ?_⟩
  unfold execOp
  simp only [ho, Sem.run_bind, List.map_toArray, List.map_cons, List.map_nil, hx, hy, run_build w t _ _ hf, Result.andThen_ok, Sem.run_pure]
theorem cell_only {w w' : World} {S : Nat → Prop} {g i : Nat} {v : Value} (ho : Only S w w') (hg : ¬ S g) (h : w.cell? ⟨g, i, none⟩ = some v) : w'.cell? ⟨g, i, none⟩ = some v := by
  have hlt := World.block_lt_of_cell? w _ h
  have := ho.block g hlt hg
  unfold World.cell? at h ⊢
  simpa [this] using h
theorem HasB.only' {w w' : World} {B g o n : Nat} {l : List UInt8} {S : Nat → Prop} (h : HasB w B (some ⟨g, o, none⟩) n l) (ho : Only S w w') (hg : ¬ S g) : HasB w' B (some ⟨g, o, none⟩) n l := by
  refine ⟨h.1, fun hn => ?_⟩
  obtain ⟨g', o', e, hb, hc⟩ := h.2 hn
  simp only [Option.some.injEq, Addr.mk.injEq, and_true] at e
  obtain ⟨rfl, rfl⟩ := e
  exact ⟨g, o, rfl, hb, fun i b hi => cell_only ho hg (hc i b hi)⟩
theorem Only.grownO {w w' : World} {row : Option Nat} (h : w.grownBy w' row) : Only (fun k => row = some k) w w' := ⟨h.os, h.tape, h.output, h.size, fun k hk hn => h.block k hk (fun e => hn e.symm)⟩
theorem step_slice_ch {w : World} {ops : Array Oper} {o : Oper} {a : Act} {K : Act → World → Prop} {Q : Exit → Act → World → Prop} {F : Prop} (hw : Region.wanted o (yielded ops a.tmps) = true) (x : Operand) (ho : o.op = .buildSlice 106 1 #[(0, x)]) (c : Ch) (hc : c.data.length = 512) (hx : a.eval x = .agg (chC c).toArray)
    (h : K (a.put o.dst (.slice (some ⟨w.heap.size, 0, none⟩) 1 1)) (w.alloc (.cells (chC c).toArray 133))) : if Region.wanted o (yielded ops a.tmps) = true then Oper.wp Tryz.prog o a w K Q else F := by
  rw [if_pos hw]
  obtain ⟨ie, z, hie, hz, hs, _, hzs⟩ := infoChZ
  refine wp_buildSlice _ _ 1 _ ho (chC c).toArray ie z Tryz.underlying106 hie hz (by rw [hs]; decide) (by rw [hs]; decide) ?_ h
  simp only [List.map_toArray, List.map_cons, List.map_nil, hx]
  obtain ⟨b0, hb0⟩ : ∃ b0 : Array Value, (Array.range (1 * ie.size)).map (z.cells[· % z.cells.size]!) = b0 := ⟨_, rfl⟩
  have hbs : b0.size = 513 := by rw [← hb0, Array.size_map, Array.size_range, hs]
  rw [hb0]
  have hlc : (chC c).toArray.size = 513 := by rw [@List.size_toArray _ (chC c)]; exact chC_len hc
  rw [fill_step (fun i => some (i * ie.size, ie.size)) b0 0 (.agg (chC c).toArray) [] 0 513 (by show some (0 * ie.size, ie.size) = some (0, 513); rw [hs]) hlc (by omega)]
  have e2 : b0.toList.drop (0 + 513) = [] := List.drop_eq_nil_of_le (by rw [Array.length_toList, hbs]; exact Nat.le_refl _)
  rw [e2, List.append_nil, List.take_zero, List.nil_append, Instr.fill]
  rfl
theorem step_app_ch {w : World} {ops : Array Oper} {o : Oper} {a : Act} {K : Act → World → Prop} {Q : Exit → Act → World → Prop} {F : Prop} (hw : Region.wanted o (yielded ops a.tmps) = true) (s x : Operand)
    (ho : o.op = .call { callee := .builtin .append, args := #[s, x], argTypes := #[106, 106] })
    (base : Nat) (v : Value) (l : List Ch) (hev : a.eval s = v) (hown : OwnC w base v l) (g m : Nat) (c : Ch) (hc : c.data.length = 512) (hx : a.eval x = .slice (some ⟨g, 0, none⟩) 1 m) (hg : w.heap[g]? = some (.cells (chC c).toArray 133 (0, 0)))
    (hlen : l.length ≤ 100000) (hbase : base ≤ w.heap.size)
    (h : ∀ A' n' c' w', OwnC w' base (.slice A' n' c') (l ++ [c]) → w.grownBy w' v.ownBlock → Below base w w' → K (a.put o.dst (.slice A' n' c')) w') : if Region.wanted o (yielded ops a.tmps) = true then Oper.wp Tryz.prog o a w K Q else F := by
  rw [if_pos hw]
  obtain ⟨ie, z, hie, hz, hs, hby, hzs⟩ := infoChZ
  obtain ⟨v', w', hr, h2, h3, h4, h5⟩ := run_append_own_at (P := Tryz.prog) w base _ o.type _ ie z 513 520 Tryz.underlying106 hie hz hs hby hzs (by decide) v l.length (rowC l) hown ⟨g, 0, none⟩ 1 m (chC c) (by rw [chC_len hc]) (fun j u hu => by
    rw [Addr.add_lit, Nat.zero_add, cell_of_row w g j _ _ (0, 0) hg]
    simpa using hu) (chC_one c) (by simp only [maxLen]; omega) (by omega) hbase
  have hown2 : OwnC w' base v' (l ++ [c]) := by
    unfold OwnC
    rw [rowC_snoc, List.length_append]
    exact h2
  obtain ⟨A', n', c', rfl, _⟩ := hown2.slice
  unfold Oper.wp execOp
  simp only [ho, resolve, invoke, builtin, Sem.run_bind, Sem.run_pure, Result.andThen_ok, List.map_toArray, List.map_cons, List.map_nil, hev, hx, hr]
  exact h A' n' c' w' hown2 h3 ((Below.refl base w).grown h3 hbase fun k hk => (hown.lt k hk).1)
theorem load_intc {W : World} {ad : Addr} {v : Int} (h : W.cell? ad = some (.int .i64 v)) : (loadVar 3 ad).run Tryz.prog W = .ok (.int .i64 v) W := by
  simp [loadVar, isAgg, run_underlying Tryz.underlying3, go_sem, h]
/-- What changesOf hands back. -/
def RetC (w : World) (l : List Ch) (e : Ending) (w' : World) : Prop := ∃ A n c, e = .returned (.slice A n c) ∧ OwnC w' w.heap.size (.slice A n c) l ∧ Below w.heap.size w w'
theorem chs_snoc (l : List Pu) (k : Nat) (x : Pu) (h : l[k]? = some x) : chs (l.take (k + 1)) = chs (l.take k) ++ [⟨x.i.toNat, x.data⟩] := by
  rw [List.take_add_one, h]
  simp [chs]
theorem chs_len (l : List Pu) (k : Nat) (h : k ≤ l.length) : (chs (l.take k)).length = k := by simp [chs]; omega
set_option maxRecDepth 100000 in
set_option maxHeartbeats 2000000 in
theorem changes_any (A : Option Addr) (nl cl : Nat) (l : List Pu) (w : World) (h : HasPu w A nl l) (hd : ∀ x ∈ l, x.data.length = 512 ∧ 0 ≤ x.i) (hn : nl ≤ 1000) : Calls Tryz.prog 58 #[.slice A nl cl] w (RetC w (chs l)) := by
  have H := Lib.hid h
  have HD := Lib.hid hd
  have HL := Lib.hid h.1
  clear h hd
  go_enter Tryz.func58, Tryz.ntmps58
  go_wp2_with fail
  go_loopw [3, 8] (fun v i wr => ∃ (A' : Option Addr) (n' c' k : Nat), k ≤ nl ∧ i = .int .i64 (k : Int) ∧ v = .slice A' n' c' ∧ OwnC wr w.heap.size (.slice A' n' c') (chs (l.take k)) ∧ Below w.heap.size w wr) (fun _ i _ => nl - (Go.RowKit.intOf i).toNat)
  case atStart => exact ⟨none, 0, 0, 0, by omega, rfl, rfl, by rw [List.take_zero]; exact OwnC.nil _ _, Below.refl _ _⟩
  case round =>
    obtain ⟨A', n', c', k, hk, rfl, rfl, qo, qb⟩ := hrel
    by_cases hlt' : k < nl
    · obtain ⟨x, hx⟩ : ∃ x, l[k]? = some x := ⟨_, List.getElem?_eq_getElem (by have := HL.out; omega)⟩
      obtain ⟨g, o, rfl, hg, hcl⟩ := H.out.2.2 (by omega)
      obtain ⟨B, q, c, k1', k2', hB, hqc⟩ := hcl k x hx
      have k1 := (qb.cell hg).trans k1'
      have k2 := (qb.cell hg).trans k2'
      clear k1' k2'
      have hxd := HD.out x (List.mem_of_getElem? hx)
      obtain ⟨xi, hxi⟩ : ∃ xi : Nat, x.i = (xi : Int) := ⟨x.i.toNat, by omega⟩
      have hq : q = 512 := by have := hB.1; omega
      obtain ⟨gb, ob, rfl, hgb, _⟩ := hB.2 (by omega)
      have SN := Lib.hid (chs_snoc l k x hx)
      have QO := Lib.hid qo
      have QB := Lib.hid qb
      have HB := Lib.hid hB
      have HXD := Lib.hid hxd.1
      have CL := Lib.hid (chs_len l k (by have := HL.out; omega))
      rw [hxi] at k1
      have HXI := Lib.hid hxi
      subst hq
      clear qo qb hB hxd hcl hx hxi
      go_upto_region 5 with fail
      obtain ⟨w5, hw5⟩ : ∃ w5, wr.alloc (.cells #[.int .i64 (xi : Int), .slice (some ⟨gb, ob, none⟩) 512 c] 115) = w5 := ⟨_, rfl⟩
      rw [hw5]
      have b5 : Below wr.heap.size wr w5 := by rw [← hw5]; exact (Below.refl _ _).alloc (Nat.le_refl _) _
      have h5 : w5.heap[wr.heap.size]? = some (.cells #[.int .i64 (xi : Int), .slice (some ⟨gb, ob, none⟩) 512 c] 115 (0, 0)) := by rw [← hw5]; exact heap_alloc_new wr _
      have c50 : w5.cell? ⟨wr.heap.size, 0, none⟩ = some (.int .i64 (xi : Int)) := cell_of_row w5 _ 0 _ _ (0, 0) h5
      have c51 : w5.cell? ⟨wr.heap.size, 1, none⟩ = some (.slice (some ⟨gb, ob, none⟩) 512 c) := cell_of_row w5 _ 1 _ _ (0, 0) h5
      have HB5 : Hid (HasB w5 w.heap.size (some ⟨gb, ob, none⟩) 512 x.data) := Lib.hid (HB.out.below (QB.out.trans (b5.mono QB.out.size)))
      have AR : Hid (∀ W, (Instr.arrayAt 98 (.slice (some ⟨gb, ob, none⟩) 512 c)).run Tryz.prog W = .ok (.pointer (some ⟨gb, ob, none⟩)) W) := Lib.hid (fun W => by
        unfold Instr.arrayAt
        simp [run_underlying Tryz.underlying98])
      have Q5 : Hid (OwnC w5 w.heap.size (.slice A' n' c') (chs (l.take k))) := Lib.hid (QO.out.below b5)
      have B5 : Hid (Below w.heap.size w w5) := Lib.hid (QB.out.trans (b5.mono QB.out.size))
      have BC : Hid (Tryz.prog.built 133 [(0, .int .i64 (xi : Int)), (1, .agg (cellsB x.data).toArray)] = some (chC ⟨xi, x.data⟩).toArray) := Lib.hid (built_ch _ _ HXD.out)
      have hlt5 : wr.heap.size < w5.heap.size := (Array.getElem?_eq_some_iff.1 h5).1
      have H5 := Lib.hid h5
      have NB : Hid (¬ ((Value.slice A' n' c').ownBlock = some wr.heap.size)) := Lib.hid (fun hh => by have := (QO.out.lt _ hh).2; omega)
      have NG : Hid (¬ ((Value.slice A' n' c').ownBlock = some gb)) := Lib.hid (fun hh => by have := (QO.out.lt _ hh).1; omega)
      clear b5 h5 hw5
      go_wp2_with fail
      refine wp_region_held_drew (S := fun W => Only (fun k => (Value.slice A' n' c').ownBlock = some k) w5 W) (by kernel_rfl) ((Only.refl _ _).drew) (fun hHeld => ?_)
      refine wpAnyH_take (i := 0) (v := ?v0) (by simp only [List.getElem?_toArray, List.getElem?_cons_succ, List.getElem?_cons_zero]; rfl) (by kernel_rfl) (by kernel_rfl) (by kernel_rfl) (by exact fun _ _ _ h => h) (Or.inl ⟨by rfl, ?h0⟩) (by assumption) ?_
      case h0 => (intro W hSw; (try dsimp only at hSw); go_simp; try with_reducible rfl)
      try simp only [Act.put, List.setIfInBounds_toArray, List.set_cons_zero, List.set_cons_succ]
      refine wpAnyH_take (i := 1) (v := ?v1) (by simp only [List.getElem?_toArray, List.getElem?_cons_succ, List.getElem?_cons_zero]; rfl) (by kernel_rfl) (by kernel_rfl) (by kernel_rfl) (by exact fun _ _ _ h => h) (Or.inl ⟨by rfl, ?h1⟩) (by assumption) ?_
      case h1 => (intro W hSw; (try dsimp only at hSw); go_simp; try with_reducible rfl)
      try simp only [Act.put, List.setIfInBounds_toArray, List.set_cons_zero, List.set_cons_succ]
      refine wpAnyH_take (i := 2) (by simp only [List.getElem?_toArray, List.getElem?_cons_succ, List.getElem?_cons_zero]; rfl) (by kernel_rfl) (by kernel_rfl) (by kernel_rfl) (by exact fun _ _ _ h => h) (yieldsIf_loadG (by rfl) 3 (.tmp 13) rfl ⟨wr.heap.size, 0, none⟩ rfl _ (fun W hW => load_intc (cell_of_row W _ 0 _ _ (0, 0) ((hW.block _ hlt5 NB.out).trans H5.out)))) (by assumption) ?_
      try simp only [Act.put, List.setIfInBounds_toArray, List.set_cons_zero, List.set_cons_succ]
      refine wpAnyH_take (i := 3) (v := ?v3) (by simp only [List.getElem?_toArray, List.getElem?_cons_succ, List.getElem?_cons_zero]; rfl) (by kernel_rfl) (by kernel_rfl) (by kernel_rfl) (by exact fun _ _ _ h => h) (Or.inl ⟨by rfl, ?h3⟩) (by assumption) ?_
      case h3 => (intro W hSw; (try dsimp only at hSw); go_simp; try with_reducible rfl)
      try simp only [Act.put, List.setIfInBounds_toArray, List.set_cons_zero, List.set_cons_succ]
      refine wpAnyH_take (i := 4) (by simp only [List.getElem?_toArray, List.getElem?_cons_succ, List.getElem?_cons_zero]; rfl) (by kernel_rfl) (by kernel_rfl) (by kernel_rfl) (by exact fun _ _ _ h => h) (yieldsIf_loadG (by rfl) 65 (.tmp 15) rfl ⟨wr.heap.size, 1, none⟩ rfl _ (fun W hW => load_slice (cell_of_row W _ 1 _ _ (0, 0) ((hW.block _ hlt5 NB.out).trans H5.out)))) (by assumption) ?_
      try simp only [Act.put, List.setIfInBounds_toArray, List.set_cons_zero, List.set_cons_succ]
      refine wpAnyH_take (i := 5) (by simp only [List.getElem?_toArray, List.getElem?_cons_succ, List.getElem?_cons_zero]; rfl) (by kernel_rfl) (by kernel_rfl) (by kernel_rfl) (by exact fun _ _ _ h => h) (yieldsIf_arr (by rfl) 98 (.tmp 16) rfl _ _ rfl AR.out) (by assumption) ?_
      try simp only [Act.put, List.setIfInBounds_toArray, List.set_cons_zero, List.set_cons_succ]
      refine wpAnyH_take (i := 6) (by simp only [List.getElem?_toArray, List.getElem?_cons_succ, List.getElem?_cons_zero]; rfl) (by kernel_rfl) (by kernel_rfl) (by kernel_rfl) (by exact fun _ _ _ h => h) (yieldsIf_loadG (by rfl) 98 (.tmp 17) rfl ⟨gb, ob, none⟩ rfl _ (fun W hW => load_secH (HB5.out.only' hW NG.out) HXD.out)) (by assumption) ?_
      try simp only [Act.put, List.setIfInBounds_toArray, List.set_cons_zero, List.set_cons_succ]
      refine wpAnyH_take (i := 7) (by simp only [List.getElem?_toArray, List.getElem?_cons_succ, List.getElem?_cons_zero]; rfl) (by kernel_rfl) (by kernel_rfl) (by kernel_rfl) (by exact fun _ _ _ h => h) (yieldsIf_bd2 (by rfl) 133 0 1 (.tmp 14) (.tmp 18) rfl _ _ rfl rfl _ BC.out) (by assumption) ?_
      try simp only [Act.put, List.setIfInBounds_toArray, List.set_cons_zero, List.set_cons_succ]
      refine wpAnyH_ready (rs := [8]) (by kernel_rfl) (by simp) ?_
      refine AllReadyH.cons (by simp only [List.getElem?_toArray, List.getElem?_cons_succ, List.getElem?_cons_zero]; rfl) (fun K hK => ?_) AllReadyH.nil
      refine step_slice_ch (by rfl) (.tmp 19) rfl ⟨xi, x.data⟩ HXD.out rfl ?_
      have hb8 : Below w5.heap.size w5 (w5.drew.alloc (.cells (chC ⟨xi, x.data⟩).toArray 133)) := (Below.refl w5.heap.size w5).drew.alloc (Nat.le_refl _) _
      have hS8 : Only (fun k => (Value.slice A' n' c').ownBlock = some k) w5 (w5.drew.alloc (.cells (chC ⟨xi, x.data⟩).toArray 133)) := Only.of_below hb8 (Nat.le_refl _)
      refine hK _ _ hS8 (fun hH8 => ?_)
      clear hK K
      try simp only [Act.put, List.setIfInBounds_toArray, List.set_cons_zero, List.set_cons_succ]
      refine wpAnyH_ready (rs := [9]) (by kernel_rfl) (by simp) ?_
      refine AllReadyH.cons (by simp only [List.getElem?_toArray, List.getElem?_cons_succ, List.getElem?_cons_zero]; rfl) (fun K hK => ?_) AllReadyH.nil
      refine step_app_ch (by rfl) (.tmp 12) (.tmp 20) rfl w.heap.size _ (chs (l.take k)) rfl (Q5.out.below hb8) w5.drew.heap.size 1 ⟨xi, x.data⟩ HXD.out rfl (heap_alloc_new _ _) (by rw [CL.out]; omega) (Nat.le_trans B5.out.size hb8.size) ?_
      intro A7 n7 c7 w7 own7 gr7 b7
      have B7 := Lib.hid ((B5.out.trans (hb8.mono B5.out.size)).trans b7)
      have hS9 : Only (fun k => (Value.slice A' n' c').ownBlock = some k) w5 w7 := hS8.trans (Only.grownO gr7)
      refine hK _ _ hS9 (fun hH9 => ?_)
      clear hK K
      try simp only [Act.put, List.setIfInBounds_toArray, List.set_cons_zero, List.set_cons_succ]
      have Q7 := Lib.hid own7
      clear own7 b7 gr7
      refine wpAnyH_take (i := 10) (v := ?v10) (by simp only [List.getElem?_toArray, List.getElem?_cons_succ, List.getElem?_cons_zero]; rfl) (by kernel_rfl) (by kernel_rfl) (by kernel_rfl) (by exact fun _ _ _ h => h) (Or.inl ⟨by rfl, ?h10⟩) (by assumption) ?_
      case h10 => (intro W hSw; (try dsimp only at hSw); go_simp; try with_reducible rfl)
      try simp only [Act.put, List.setIfInBounds_toArray, List.set_cons_zero, List.set_cons_succ]
      refine wpAnyH_done (by kernel_rfl) ?_ _
      try simp only [Act.put, List.setIfInBounds_toArray, List.set_cons_zero, List.set_cons_succ]
      go_wp2_with fail
      go_roundw
      case rel =>
        refine ⟨A7, n7, c7, k + 1, by omega, by go_num, rfl, ?_, B7.out⟩
        rw [SN.out, HXI.out]
        exact Q7.out
      case measure => simp [Go.RowKit.intOf]; omega
    · obtain rfl : k = nl := by omega
      have hf : l.take k = l := by rw [HL.out]; exact List.take_length
      rw [hf] at qo
      have QO := Lib.hid qo
      have QB := Lib.hid qb
      clear qo qb hf
      go_wp2_with fail
      go_ret
      exact ⟨_, _, _, rfl, QO.out, QB.out⟩
end Go.Proofs.YtadagbkfemcgfaaGreat
