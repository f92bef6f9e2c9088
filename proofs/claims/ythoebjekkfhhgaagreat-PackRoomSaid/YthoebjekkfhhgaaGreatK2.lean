/-
  Own work.
-/
import Derived.Test.YthoebjekkfhhgaaGreatCp9
import Derived.Test.YthoebjekkfhhgaaGreatK1
import Derived.Test.YthoebjekkfhhgaaGreatFk
set_option linter.unusedVariables false
set_option linter.unusedSimpArgs false
set_option maxRecDepth 100000
set_option maxHeartbeats 8000000
namespace Go.Proofs.YthoebjekkfhhgaaGreat
open Go.RowKit Go.Maps
theorem yieldsIf_binP {P : Program} {ops : Array Oper} {o : Oper} {a : Act} {S : World -> Prop} (hw : Region.wanted o (yielded ops a.tmps) = true) (b : BinOp) (t u : TypeId) (x y : Operand) (ho : o.op = .binOp b t x y u) (X Y V : Value) (hx : a.eval x = X) (hy : a.eval y = Y)
 (hg : ∀ w, (eqGuard b t x y X Y).run P w = .ok () w) (hb : ∀ w, (binOp b t X Y).run P w = .ok V w) : YieldsIf P ops S o V a := by
 refine Or.inl ⟨hw, fun w hS => ?_⟩
 unfold execOp
 simp only [ho, hx, hy, Sem.run_bind, Sem.run_pure, Result.andThen_ok, hg, hb]
theorem guard_lss (X Y : Value) (x y : Operand) (w : World) : (eqGuard .lss 3 x y X Y).run Tryz.prog w = .ok () w := by
 unfold eqGuard; simp
theorem guard_gtr (X Y : Value) (x y : Operand) (w : World) : (eqGuard .gtr 3 x y X Y).run Tryz.prog w = .ok () w := by
 unfold eqGuard; simp
theorem guard_sub (X Y : Value) (x y : Operand) (w : World) : (eqGuard .sub 3 x y X Y).run Tryz.prog w = .ok () w := by
 unfold eqGuard; simp
theorem lss_run {x y : Int} {b : Bool} (h : decide (x < y) = b) (w : World) : (binOp .lss 3 (.int .i64 x) (.int .i64 y)).run Tryz.prog w = .ok (.bool b) w := by
 subst h; go_simp
theorem gtr_run {x y : Int} {b : Bool} (h : decide (x > y) = b) (w : World) : (binOp .gtr 3 (.int .i64 x) (.int .i64 y)).run Tryz.prog w = .ok (.bool b) w := by
 subst h; go_simp
theorem sub_run {x y : Int} (h : IntKind.i64.wrap (x - y) = x - y) (w : World) : (binOp .sub 3 (.int .i64 x) (.int .i64 y)).run Tryz.prog w = .ok (.int .i64 (x - y)) w := by
 go_simp; try rw [h]
section
variable {Z : DK} {w0 W W' : World} {g gd gp gt n V r q c : Nat} {F C : Nat -> List UInt8} {E E' : Nat -> Prop}
theorem around_o (K : FK) (a : T3 Z w0 W g gd gp gt n V r q c F C E) (p at_ ln : Int) (ha : Bd at_) (hn : Bd ln) (x : Ent) (hxu : x.u < 4294967296) (hl : ∀ W E, T3 Z w0 W g gd gp gt n V r q c F C E -> Calls Tryz.prog 66 #[.pointer (some ⟨gt, 0, none⟩), .int .i64 p] W (RetE Z w0 W g gd gp gt n V r q c F C E x 0)) (h1 : ¬ at_ < 0) (h2 : ¬ ln < 46) (h4 : ¬ (x.u : Int) - ln < at_) :
 Calls Tryz.prog 59 #[.pointer (some ⟨gt, 0, none⟩), .agg #[.int .i64 p, .int .i64 at_, .int .i64 ln]] W (RetE Z w0 W g gd gp gt n V r q c F C E x 0) := by
 have A1 := (a.alloc (.cells #[.int .i64 p, .int .i64 at_, .int .i64 ln] 44)).alloc (.cells #[.int .i64 0, .int .i64 0, .int .i64 0] 121)
 have CL := lH (hl _ _ A1)
 have SZ : Hid (∀ w, Calls Tryz.prog 93 #[.int .i64 0] w fun e w' => e = .returned (.int .i64 46) /\ Below w.heap.size w w') := lH (fun w => by have := K.size_any w 0 ⟨by omega, by omega⟩; rwa [show fsz 0 = 46 from rfl] at this)
 have HO := lH (ent_ones x)
 have hltE : ∀ k, E k -> k < W.heap.size := fun k hk => (a.lt k hk).2
 obtain ⟨B, hB⟩ : ∃ B, W.heap.size = B := ⟨_, rfl⟩
 have sB : (W.alloc (.cells #[.int .i64 p, .int .i64 at_, .int .i64 ln] 44)).heap.size = B + 1 := by simp [hB]
 have zp0 : ((W.alloc (.cells #[.int .i64 p, .int .i64 at_, .int .i64 ln] 44)).alloc (.cells #[.int .i64 0, .int .i64 0, .int .i64 0] 121)).heap[B]? = some (.cells #[.int .i64 p, .int .i64 at_, .int .i64 ln] 44 (0, 0)) := by
  have e0 := heap_alloc_new W (.cells #[.int .i64 p, .int .i64 at_, .int .i64 ln] 44)
  rw [hB] at e0
  exact (Below.heap_alloc _ _ B (by rw [sB]; omega)).trans e0
 have zr0 : ((W.alloc (.cells #[.int .i64 p, .int .i64 at_, .int .i64 ln] 44)).alloc (.cells #[.int .i64 0, .int .i64 0, .int .i64 0] 121)).heap[B + 1]? = some (.cells #[.int .i64 0, .int .i64 0, .int .i64 0] 121 (0, 0)) := by
  have e0 := heap_alloc_new (W.alloc (.cells #[.int .i64 p, .int .i64 at_, .int .i64 ln] 44)) (.cells #[.int .i64 0, .int .i64 0, .int .i64 0] 121)
  rw [sB] at e0
  exact e0
 have FIN : Hid (∀ w5, RetE Z w0 ((W.alloc (.cells #[.int .i64 p, .int .i64 at_, .int .i64 ln] 44)).alloc (.cells #[.int .i64 0, .int .i64 0, .int .i64 0] 121)) g gd gp gt n V r q c F C (fun k => (E k \/ k = W.heap.size) \/ k = (W.alloc (.cells #[.int .i64 p, .int .i64 at_, .int .i64 ln] 44)).heap.size) x 0 (.returned (.tuple #[.agg x.cells.toArray, .int .i64 0])) w5 -> ∀ Y, Below w5.heap.size w5 Y -> Y.heap[B]? = some (.cells #[.int .i64 p, .int .i64 at_, .int .i64 ln] 44 (0, 0)) /\ Y.heap[B + 1]? = some (.cells #[.int .i64 0, .int .i64 0, .int .i64 0] 121 (0, 0)) /\ ∀ cs, T3 Z w0 (Y.setRow (B + 1) cs) g gd gp gt n V r q c F C E /\ Only (fun k => ¬ E k) W (Y.setRow (B + 1) cs)) := lH (fun w5 h Y hY => by
  obtain ⟨_, t5, y5⟩ := h
  rw [hB, sB] at t5 y5
  have l1 := (Array.getElem?_eq_some_iff.1 zp0).1
  have l2 := (Array.getElem?_eq_some_iff.1 zr0).1
  have p5 := (y5.block B l1 (fun h => h (.inl (.inr rfl)))).trans zp0
  have r5 := (y5.block (B + 1) l2 (fun h => h (.inr rfl))).trans zr0
  refine ⟨(hY.block B (Array.getElem?_eq_some_iff.1 p5).1).trans p5, (hY.block (B + 1) (Array.getElem?_eq_some_iff.1 r5).1).trans r5, fun cs => ?_⟩
  have q1 : Only (fun k => ¬ E k) W ((W.alloc (.cells #[.int .i64 p, .int .i64 at_, .int .i64 ln] 44)).alloc (.cells #[.int .i64 0, .int .i64 0, .int .i64 0] 121)) := ((Only.refl _ W).alloc _).alloc _
  have yR : Only (fun k => k = B + 1) Y (Y.setRow (B + 1) cs) := Only.setRow (S := fun k => k = B + 1) (Only.refl _ Y) (g := B + 1) rfl cs
  refine ⟨((t5.up1 hY).add (E' := E) (yR.mono (fun k _ hk => .inl (.inr hk))) (fun k hk => .inl (.inl (.inl hk)))), ?_⟩
  exact ((q1.trans (y5.mono (fun k _ hk he => hk (.inl (.inl he))))).trans (Only.of_below hY (Nat.le_refl _))).trans (yR.mono (fun k _ hk he => by have := hltE k he; omega)))
 have H1 := lH (show decide (at_ < 0) = false from decide_eq_false h1)
 have H2 := lH (show decide (ln < 46) = false from decide_eq_false h2)
 have H3 : Hid (IntKind.i64.wrap ((x.u : Int) - ln) = (x.u : Int) - ln) := lH (wrapI (by have := hn.2; omega) (by have := hn.1; omega))
 have H4 := lH (show decide (at_ > (x.u : Int) - ln) = false from decide_eq_false h4)
 clear a A1 hl hltE zp0 zr0 sB ha hn
 go_enter Tryz.func59, Tryz.ntmps59
 go_upto_region 4 with (first
  | (go_at_call 66; refine CL.out.mono ?_; rintro e w5 h5
     obtain ⟨rfl, t5, y5⟩ := h5
     have FN := lH (FIN.out w5 ⟨rfl, t5, y5⟩)
     clear t5 y5)
  | (refine wpList_store_row8 rfl 121 (.tmp 6) (.tmp 13) rfl w5.heap.size x.cells.toArray rfl rfl 121 _ (heap_alloc_new w5 _) infoEnt rfl HO.out ?_))
 have z8 : ((w5.alloc (.cells #[.int .i64 0, .int .i64 0, .int .i64 0] 121)).setRow w5.heap.size x.cells.toArray).heap[w5.heap.size]? = some (bx x) := setRow_heap _ _ _ _ 121 _ (heap_alloc_new w5 _)
 have b8 : Below w5.heap.size w5 ((w5.alloc (.cells #[.int .i64 0, .int .i64 0, .int .i64 0] 121)).setRow w5.heap.size x.cells.toArray) := below_setRow ((Below.refl _ _).alloc (Nat.le_refl _) _) (Nat.le_refl _) _
 obtain ⟨w8, hw8⟩ : ∃ w8, ((w5.alloc (.cells #[.int .i64 0, .int .i64 0, .int .i64 0] 121)).setRow w5.heap.size x.cells.toArray) = w8 := ⟨_, rfl⟩
 rw [hw8] at z8 b8
 rw [hw8]
 obtain ⟨gm, hgm⟩ : ∃ gm, w5.heap.size = gm := ⟨_, rfl⟩
 simp only [hgm]
 have F8 : Hid (∀ Y, Below w8.heap.size w8 Y -> Y.heap[B]? = some (.cells #[.int .i64 p, .int .i64 at_, .int .i64 ln] 44 (0, 0)) /\ Y.heap[B + 1]? = some (.cells #[.int .i64 0, .int .i64 0, .int .i64 0] 121 (0, 0)) /\ Y.heap[gm]? = some (bx x) /\ ∀ cs, T3 Z w0 (Y.setRow (B + 1) cs) g gd gp gt n V r q c F C E /\ Only (fun k => ¬ E k) W (Y.setRow (B + 1) cs)) := lH (fun Y hY => by
  obtain ⟨u1, u2, u3⟩ := FN.out Y (b8.trans (hY.mono b8.size))
  rw [hgm] at z8
  exact ⟨u1, u2, (hY.block gm (Array.getElem?_eq_some_iff.1 z8).1).trans z8, u3⟩)
 clear hw8 hgm z8 b8
 have L1 : Hid (∀ Y, Below w8.heap.size w8 Y -> (loadVar 3 ⟨B, 1, none⟩).run Tryz.prog Y = .ok (.int .i64 at_) Y) := lH (fun Y hY => load_intc (cell_of_row _ _ _ _ _ _ (F8.out Y hY).1))
 have L2 : Hid (∀ Y, Below w8.heap.size w8 Y -> (loadVar 3 ⟨B, 2, none⟩).run Tryz.prog Y = .ok (.int .i64 ln) Y) := lH (fun Y hY => load_intc (cell_of_row _ _ _ _ _ _ (F8.out Y hY).1))
 have L3 : Hid (∀ Y, Below w8.heap.size w8 Y -> (loadVar 3 ⟨gm, 1, none⟩).run Tryz.prog Y = .ok (.int .i64 (x.u : Int)) Y) := lH (fun Y hY => load_intc (cell_of_row _ _ _ _ _ _ (F8.out Y hY).2.2.1))
 refine wp_region_held_drew (S := fun Y => Below w8.heap.size w8 Y) (by kernel_rfl) (Below.refl w8.heap.size w8).drew (fun hHeld => ?_)
 refine tk9 (i := 0) (h := ?_)
 try simp only [aP,aN,aS,aZ,aC]
 refine tk9 (i := 1) (hy := (yieldsIf_loadG (by rfl) 3 (.tmp 19) rfl ⟨B, 1, none⟩ rfl (.int .i64 at_) (fun Y hY => L1.out Y hY))) (h := ?_)
 try simp only [aP,aN,aS,aZ,aC]
 refine tk9 (i := 2) (hy := (yieldsIf_binP (by rfl) .lss 3 3 (.tmp 20) (.const (.int .i64 0)) rfl (.int .i64 at_) (.int .i64 0) (.bool false) rfl rfl (guard_lss _ _ _ _) (lss_run H1.out))) (h := ?_)
 try simp only [aP,aN,aS,aZ,aC]
 refine tk9 (i := 3) (h := ?_)
 try simp only [aP,aN,aS,aZ,aC]
 refine tk9 (i := 4) (h := ?_)
 try simp only [aP,aN,aS,aZ,aC]
 refine tk9 (i := 5) (hy := (yieldsIf_loadG (by rfl) 3 (.tmp 23) rfl ⟨B, 2, none⟩ rfl (.int .i64 ln) (fun Y hY => L2.out Y hY))) (h := ?_)
 try simp only [aP,aN,aS,aZ,aC]
 refine rd9 (i := 6) (h := fun K hK => ?_)
 go_simp
 refine (SZ.out _).mono ?_
 rintro e w9 ⟨rfl, b9⟩
 have hS6 : Below w8.heap.size w8 w9 := hHeld.trans (b9.mono hHeld.size)
 have B9 := lH hS6
 clear b9
 refine hK _ _ hS6 (fun hH6 => ?_)
 clear hK K
 try simp only [aP,aN,aS,aZ,aC]
 refine tk9 (i := 7) (hy := (yieldsIf_binP (by rfl) .lss 3 3 (.tmp 24) (.tmp 25) rfl (.int .i64 ln) (.int .i64 46) (.bool false) rfl rfl (guard_lss _ _ _ _) (lss_run H2.out))) (h := ?_)
 try simp only [aP,aN,aS,aZ,aC]
 refine tk9 (i := 8) (h := ?_)
 try simp only [aP,aN,aS,aZ,aC]
 refine tk9 (i := 9) (h := ?_)
 try simp only [aP,aN,aS,aZ,aC]
 refine tk9 (i := 10) (h := ?_)
 try simp only [aP,aN,aS,aZ,aC]
 refine tk9 (i := 11) (hy := (yieldsIf_loadG (by rfl) 3 (.tmp 29) rfl ⟨B, 1, none⟩ rfl (.int .i64 at_) (fun Y hY => L1.out Y hY))) (h := ?_)
 try simp only [aP,aN,aS,aZ,aC]
 refine tk9 (i := 12) (h := ?_)
 try simp only [aP,aN,aS,aZ,aC]
 refine tk9 (i := 13) (hy := (yieldsIf_loadG (by rfl) 3 (.tmp 31) rfl ⟨gm, 1, none⟩ rfl (.int .i64 (x.u : Int)) (fun Y hY => L3.out Y hY))) (h := ?_)
 try simp only [aP,aN,aS,aZ,aC]
 refine tk9 (i := 14) (h := ?_)
 try simp only [aP,aN,aS,aZ,aC]
 refine tk9 (i := 15) (hy := (yieldsIf_loadG (by rfl) 3 (.tmp 33) rfl ⟨B, 2, none⟩ rfl (.int .i64 ln) (fun Y hY => L2.out Y hY))) (h := ?_)
 try simp only [aP,aN,aS,aZ,aC]
 refine tk9 (i := 16) (hy := (yieldsIf_binP (by rfl) .sub 3 3 (.tmp 32) (.tmp 34) rfl (.int .i64 (x.u : Int)) (.int .i64 ln) (.int .i64 ((x.u : Int) - ln)) rfl rfl (guard_sub _ _ _ _) (sub_run H3.out))) (h := ?_)
 try simp only [aP,aN,aS,aZ,aC]
 refine tk9 (i := 17) (hy := (yieldsIf_binP (by rfl) .gtr 3 3 (.tmp 30) (.tmp 35) rfl (.int .i64 at_) (.int .i64 ((x.u : Int) - ln)) (.bool false) rfl rfl (guard_gtr _ _ _ _) (gtr_run H4.out))) (h := ?_)
 try simp only [aP,aN,aS,aZ,aC]
 refine tk9 (i := 18) (h := ?_)
 try simp only [aP,aN,aS,aZ,aC]
 refine wpAnyH_done (by kernel_rfl) ?_ _
 have ZR := lH (F8.out _ B9.out).2.1
 have LDE := lH (ld_set (F8.out _ B9.out).2.2.1)
 have U9 := lH (F8.out _ B9.out).2.2.2
 go_wp2_with (first
  | (refine wpList_load8 rfl 121 (.tmp 6) rfl ⟨gm, 0, none⟩ rfl _ LDE.out ?_)
  | (refine wpList_store_row8 rfl 121 (.tmp 4) (.tmp 39) rfl (B + 1) x.cells.toArray rfl rfl 121 _ ZR.out infoEnt rfl HO.out ?_))
 refine bodyPost_ret (v := .tuple #[.agg (Ent.cells x).toArray, .int .i64 0]) ?_ (by rfl) ⟨rfl, U9.out _⟩
 exact results_ent (p := 4) (u := 5) rfl _ _ (B + 1) x (by rfl) (setRow_heap _ _ _ _ 121 _ ZR.out)
end
section
variable {Z : DK} {w0 W W' : World} {g gd gp gt n V r q c : Nat} {F C : Nat -> List UInt8} {E E' : Nat -> Prop}
end
theorem infoPlace : (Tryz.prog.info? 44).map (·.size) = some 3 := by kernel_rfl
theorem ld_place {w : World} {b : Nat} {p a l : Int} (h : w.heap[b]? = some (.cells #[.int .i64 p, .int .i64 a, .int .i64 l] 44 (0, 0))) : (loadVar 44 ⟨b, 0, none⟩).run Tryz.prog w = .ok (.agg #[.int .i64 p, .int .i64 a, .int .i64 l]) w :=
 load_M (k := 3) (r := [.int .i64 p, .int .i64 a, .int .i64 l]) rfl infoPlace (fun W => by unfold isAgg; rw [Sem.run_bind, run_underlying Tryz.underlying44 W]; rfl) (fun j u hu => by rw [Nat.zero_add, cell_of_row _ _ _ _ _ _ h]; simpa using hu)
section
variable {W W' : World}
theorem drop1_rel {Q : Value -> World -> Prop} {b0 b1 b2 gt : Nat} {x : Ent} {k : Int} (hv : x.v = 0) (z0 : W.heap[b0]? = some (bx x)) (z1 : W.cell? ⟨b1, 0, none⟩ = some (.pointer (some ⟨gt, 0, none⟩))) (z2 : W.cell? ⟨b2, 0, none⟩ = some (.int .i64 k))
 (h : Calls Tryz.prog 62 #[.agg x.cells.toArray, .pointer (some ⟨gt, 0, none⟩), .int .i64 k] W fun en W' => ∃ y : Int, en = .returned (.int .i64 y) /\ Q (.int .i64 y) W') :
 Calls Tryz.prog 61 #[.pointer (some ⟨b0, 0, none⟩), .pointer (some ⟨b1, 0, none⟩), .pointer (some ⟨b2, 0, none⟩)] W fun en W' => ∃ y : Int, en = .returned (.int .i64 y) /\ Q (.int .i64 y) W' := by
 have H := lH h
 have LD := lH (ld_set z0)
 have c2 : W.cell? ⟨b0, 2, none⟩ = some (.int .i64 (x.v : Int)) := cell_of_row W b0 2 _ _ _ z0
 have he : (((x.v : Nat) : Int) == 0) = true := by simp [hv]
 clear h z0 hv
 go_enter Tryz.func61, Tryz.ntmps61
 go_wp2_with (first
  | (refine wpList_load8 rfl 121 (.tmp 0) rfl ⟨b0, 0, none⟩ rfl _ LD.out ?_)
  | (go_at_call 62; refine H.out.mono ?_; rintro e w7 ⟨y, rfl, q7⟩
     have Q7 := lH q7
     clear q7))
 go_ret
 exact ⟨y, rfl, Q7.out⟩
theorem drop1_st {Q : Value -> World -> Prop} {b0 b1 b2 gt : Nat} {x : Ent} {k : Int} (hv : x.v ≠ 0) (z0 : W.heap[b0]? = some (bx x)) (z1 : W.cell? ⟨b1, 0, none⟩ = some (.pointer (some ⟨gt, 0, none⟩))) (z2 : W.cell? ⟨b2, 0, none⟩ = some (.int .i64 k))
 (h : Calls Tryz.prog 63 #[.agg x.cells.toArray, .pointer (some ⟨gt, 0, none⟩), .int .i64 k] W fun en W' => ∃ y : Int, en = .returned (.int .i64 y) /\ Q (.int .i64 y) W') :
 Calls Tryz.prog 61 #[.pointer (some ⟨b0, 0, none⟩), .pointer (some ⟨b1, 0, none⟩), .pointer (some ⟨b2, 0, none⟩)] W fun en W' => ∃ y : Int, en = .returned (.int .i64 y) /\ Q (.int .i64 y) W' := by
 have H := lH h
 have LD := lH (ld_set z0)
 have c2 : W.cell? ⟨b0, 2, none⟩ = some (.int .i64 (x.v : Int)) := cell_of_row W b0 2 _ _ _ z0
 have he : (((x.v : Nat) : Int) == 0) = false := by simp [hv]
 clear h z0 hv
 go_enter Tryz.func61, Tryz.ntmps61
 go_wp2_with (first
  | (refine wpList_load8 rfl 121 (.tmp 0) rfl ⟨b0, 0, none⟩ rfl _ LD.out ?_)
  | (go_at_call 63; refine H.out.mono ?_; rintro e w7 ⟨y, rfl, q7⟩
     have Q7 := lH q7
     clear q7))
 go_ret
 exact ⟨y, rfl, Q7.out⟩
end
theorem ld_txp {w : World} {b gt : Nat} {t : TypeId} (h : w.heap[b]? = some (.cells #[.pointer (some ⟨gt, 0, none⟩)] t (0, 0))) : (loadVar 26 ⟨b, 0, none⟩).run Tryz.prog w = .ok (.pointer (some ⟨gt, 0, none⟩)) w := by
 simp [loadVar, isAgg, run_underlying Tryz.underlying26, go_sem, cell_of_row w b 0 _ _ _ h]
theorem row_set2 {w : World} {b : Nat} {s u v : Nat} (h : w.heap[b]? = some (bx ⟨s, u, v⟩)) {y : Int} {v2 : Nat} (h2 : y = (v2 : Int)) : (w.setCell ⟨b, 2, none⟩ (.int .i64 y)).heap[b]? = some (bx ⟨s, u, v2⟩) := by
 subst h2
 exact heap_setCell_same _ b 2 _ _ (.int .i64 (v2 : Int)) h
section
variable {Z : DK} {w0 W W' : World} {g gd gp gt n V r q c q2 c2 : Nat} {F G C : Nat -> List UInt8} {E E' : Nat -> Prop}
theorem drop_ok (a : T3 Z w0 W g gd gp gt n V r q c F C E) (p at_ : Int) (l : Nat) (s u v : Nat) (hl : l <= v) (hv : v < 4294967296)
 (ha : ∀ W E, T3 Z w0 W g gd gp gt n V r q c F C E -> Calls Tryz.prog 59 #[.pointer (some ⟨gt, 0, none⟩), .agg #[.int .i64 p, .int .i64 at_, .int .i64 (l : Int)]] W (RetE Z w0 W g gd gp gt n V r q c F C E ⟨s, u, v⟩ 0))
 (hd : ∀ W E b0 b1 b2, T3 Z w0 W g gd gp gt n V r q c F C E -> W.heap[b0]? = some (bx ⟨s, u, v - l⟩) -> W.cell? ⟨b1, 0, none⟩ = some (.pointer (some ⟨gt, 0, none⟩)) -> W.cell? ⟨b2, 0, none⟩ = some (.int .i64 p) -> Calls Tryz.prog 61 #[.pointer (some ⟨b0, 0, none⟩), .pointer (some ⟨b1, 0, none⟩), .pointer (some ⟨b2, 0, none⟩)] W fun en W' => en = .returned (.int .i64 0) /\ T3 Z w0 W' g gd gp gt n V r q2 c2 G C E /\ Only (fun k => ¬ E k) W W') :
 Calls Tryz.prog 30 #[.pointer (some ⟨gt, 0, none⟩), .agg #[.int .i64 p, .int .i64 at_, .int .i64 (l : Int)]] W fun en W' => en = .returned (.int .i64 0) /\ T3 Z w0 W' g gd gp gt n V r q2 c2 G C E /\ Only (fun k => ¬ E k) W W' := by
 have A1 := (a.alloc (.cells #[.pointer (some ⟨gt, 0, none⟩)] 26)).alloc (.cells #[.int .i64 p, .int .i64 at_, .int .i64 (l : Int)] 44)
 have CL := lH (ha _ _ A1)
 have HO := lH (ent_ones ⟨s, u, v⟩)
 have hltE : ∀ k, E k -> k < W.heap.size := fun k hk => (a.lt k hk).2
 obtain ⟨B, hB⟩ : ∃ B, W.heap.size = B := ⟨_, rfl⟩
 have sB : (W.alloc (.cells #[.pointer (some ⟨gt, 0, none⟩)] 26)).heap.size = B + 1 := by simp [hB]
 have zt0 : ((W.alloc (.cells #[.pointer (some ⟨gt, 0, none⟩)] 26)).alloc (.cells #[.int .i64 p, .int .i64 at_, .int .i64 (l : Int)] 44)).heap[B]? = some (.cells #[.pointer (some ⟨gt, 0, none⟩)] 26 (0, 0)) := by
  have e0 := heap_alloc_new W (.cells #[.pointer (some ⟨gt, 0, none⟩)] 26)
  rw [hB] at e0
  exact (Below.heap_alloc _ _ B (by rw [sB]; omega)).trans e0
 have zp0 : ((W.alloc (.cells #[.pointer (some ⟨gt, 0, none⟩)] 26)).alloc (.cells #[.int .i64 p, .int .i64 at_, .int .i64 (l : Int)] 44)).heap[B + 1]? = some (.cells #[.int .i64 p, .int .i64 at_, .int .i64 (l : Int)] 44 (0, 0)) := by
  have e0 := heap_alloc_new (W.alloc (.cells #[.pointer (some ⟨gt, 0, none⟩)] 26)) (.cells #[.int .i64 p, .int .i64 at_, .int .i64 (l : Int)] 44)
  rw [sB] at e0
  exact e0
 have LT := lH (ld_txp zt0)
 have LP := lH (ld_place zp0)
 have FIN : Hid (∀ w5, T3 Z w0 w5 g gd gp gt n V r q c F C (fun k => (E k \/ k = W.heap.size) \/ k = (W.alloc (.cells #[.pointer (some ⟨gt, 0, none⟩)] 26)).heap.size) -> Only (fun k => ¬ ((E k \/ k = W.heap.size) \/ k = (W.alloc (.cells #[.pointer (some ⟨gt, 0, none⟩)] 26)).heap.size)) ((W.alloc (.cells #[.pointer (some ⟨gt, 0, none⟩)] 26)).alloc (.cells #[.int .i64 p, .int .i64 at_, .int .i64 (l : Int)] 44)) w5 ->
  ∀ Y, Below w5.heap.size w5 Y -> Y.heap[w5.heap.size]? = some (bx ⟨s, u, v⟩) -> Y.heap[B]? = some (.cells #[.pointer (some ⟨gt, 0, none⟩)] 26 (0, 0)) /\ Y.heap[B + 1]? = some (.cells #[.int .i64 p, .int .i64 at_, .int .i64 (l : Int)] 44 (0, 0)) /\ T3 Z w0 Y g gd gp gt n V r q c F C (fun k => ((E k \/ k = B) \/ k = B + 1) \/ k = w5.heap.size) /\ Only (fun k => ¬ E k) W Y /\ w5.heap.size ≠ B /\ w5.heap.size ≠ B + 1 /\ ∀ k, E k -> k ≠ w5.heap.size) := lH (fun w5 t5 y5 Y hY hg => by
  rw [hB, sB] at t5 y5
  have l1 := (Array.getElem?_eq_some_iff.1 zt0).1
  have l2 := (Array.getElem?_eq_some_iff.1 zp0).1
  have p5 := (y5.block B l1 (fun h => h (.inl (.inr rfl)))).trans zt0
  have r5 := (y5.block (B + 1) l2 (fun h => h (.inr rfl))).trans zp0
  have g1 := (Array.getElem?_eq_some_iff.1 p5).1
  have g2 := (Array.getElem?_eq_some_iff.1 r5).1
  have g3 := (Array.getElem?_eq_some_iff.1 hg).1
  have q1 : Only (fun k => ¬ E k) W ((W.alloc (.cells #[.pointer (some ⟨gt, 0, none⟩)] 26)).alloc (.cells #[.int .i64 p, .int .i64 at_, .int .i64 (l : Int)] 44)) := ((Only.refl _ W).alloc _).alloc _
  refine ⟨(hY.block B g1).trans p5, (hY.block (B + 1) g2).trans r5, t5.add (Only.of_below hY (Nat.le_refl _)) (fun k hk => hk.imp id (fun e => ⟨by omega, by omega⟩)), (q1.trans (y5.mono (fun k _ hk he => hk (.inl (.inl he))))).trans (Only.of_below hY (Nat.le_refl _)), by omega, by omega, fun k hk e => by have := hltE k hk; omega⟩)
 have HD := lH hd
 have HLT := lH hltE
 clear a A1 ha hltE zt0 zp0 sB hd
 go_enter Tryz.func30, Tryz.ntmps30
 go_upto_region 2 with (first
  | (refine wpList_load8 rfl 44 (.tmp 3) rfl ⟨B + 1, 0, none⟩ rfl _ LP.out ?_)
  | (go_at_call 59; refine CL.out.mono ?_; rintro e w5 h5
     obtain ⟨rfl, t5, y5⟩ := h5
     have FN := lH (FIN.out w5 t5 y5)
     clear t5 y5)
  | (refine wpList_store_row8 rfl 121 (.tmp 5) (.tmp 11) rfl w5.heap.size (Ent.cells ⟨s, u, v⟩).toArray rfl rfl 121 _ (heap_alloc_new w5 _) infoEnt rfl HO.out ?_))
 have z8 : ((w5.alloc (.cells #[.int .i64 0, .int .i64 0, .int .i64 0] 121)).setRow w5.heap.size (Ent.cells ⟨s, u, v⟩).toArray).heap[w5.heap.size]? = some (bx ⟨s, u, v⟩) := setRow_heap _ _ _ _ 121 _ (heap_alloc_new w5 _)
 have b8 : Below w5.heap.size w5 ((w5.alloc (.cells #[.int .i64 0, .int .i64 0, .int .i64 0] 121)).setRow w5.heap.size (Ent.cells ⟨s, u, v⟩).toArray) := below_setRow ((Below.refl _ _).alloc (Nat.le_refl _) _) (Nat.le_refl _) _
 obtain ⟨w8, hw8⟩ : ∃ w8, ((w5.alloc (.cells #[.int .i64 0, .int .i64 0, .int .i64 0] 121)).setRow w5.heap.size (Ent.cells ⟨s, u, v⟩).toArray) = w8 := ⟨_, rfl⟩
 rw [hw8] at z8 b8
 rw [hw8]
 obtain ⟨t8, p8, T8, Y8, n1, n2, n3⟩ := FN.out w8 b8 z8
 obtain ⟨gm, hgm⟩ : ∃ gm, w5.heap.size = gm := ⟨_, rfl⟩
 rw [hgm] at z8 T8 n1 n2 n3
 simp only [hgm]
 have cv := cell_of_row w8 gm 2 _ _ _ z8
 have fv := frozen_of_row w8 gm 2 _ _ z8
 have cl := cell_of_row w8 (B + 1) 2 _ _ _ p8
 simp [Ent.cells] at cv
 simp at cl
 have AFT : Hid (∀ y : Int, y = ((v - l : Nat) : Int) -> (loadVar 26 ⟨B, 0, none⟩).run Tryz.prog (w8.setCell ⟨gm, 2, none⟩ (.int .i64 y)) = .ok (.pointer (some ⟨gt, 0, none⟩)) (w8.setCell ⟨gm, 2, none⟩ (.int .i64 y)) /\ Calls Tryz.prog 60 #[.pointer (some ⟨gt, 0, none⟩), .func (.func 61) #[] #[.pointer (some ⟨gm, 0, none⟩), .pointer (some ⟨B, 0, none⟩), .pointer (some ⟨B + 1, 0, none⟩)]] (w8.setCell ⟨gm, 2, none⟩ (.int .i64 y)) fun en W' => en = .returned (.int .i64 0) /\ T3 Z w0 W' g gd gp gt n V r q2 c2 G C E /\ Only (fun k => ¬ E k) W W') := lH (fun y hy => by
  have z9 := row_set2 z8 hy
  have yS : Only (fun k => k = gm) w8 (w8.setCell ⟨gm, 2, none⟩ (.int .i64 y)) := (Only.refl _ w8).cell1 2 _
  have t9 := (yS.block B (Array.getElem?_eq_some_iff.1 t8).1 (fun e => n1 e.symm)).trans t8
  have p9 := (yS.block (B + 1) (Array.getElem?_eq_some_iff.1 p8).1 (fun e => n2 e.symm)).trans p8
  have T9 := T8.add (E' := fun k => ((E k \/ k = B) \/ k = B + 1) \/ k = gm) (yS.mono (fun k _ hk => .inl (.inr hk))) (fun k hk => .inl hk)
  refine ⟨ld_txp t9, change_okD T9 (fun w1 hw1 => ?_)⟩
  have z1 := (hw1.block gm (Array.getElem?_eq_some_iff.1 z9).1).trans z9
  have t1 := (hw1.block B (Array.getElem?_eq_some_iff.1 t9).1).trans t9
  have p1 := (hw1.block (B + 1) (Array.getElem?_eq_some_iff.1 p9).1).trans p9
  refine (HD.out w1 _ gm B (B + 1) (T9.up1 hw1) z1 (cell_of_row _ _ 0 _ _ _ t1) (cell_of_row _ _ 0 _ _ _ p1)).mono ?_
  rintro en w2 ⟨he, t2, y2⟩
  exact ⟨he, t2.less (fun k hk => .inl (.inl (.inl hk))), ((Y8.trans (yS.mono (fun k _ hk he => n3 k he hk))).trans (Only.of_below hw1 (Nat.le_refl _))).trans (y2.mono (fun k _ hk he => hk (.inl (.inl (.inl he)))))⟩)
 have hgt : ¬ ((l : Int) > (v : Int)) := by omega
 have wr1 : IntKind.i64.wrap ((v : Int) - (l : Int)) = (v : Int) - (l : Int) := wrapI (by omega) (by omega)
 clear hw8 hgm z8 b8 t8 p8 T8 Y8 n1 n2 n3
 go_wp2_with (first
  | (refine wpList_load8 rfl 26 (.tmp 2) rfl ⟨B, 0, none⟩ rfl _ (AFT.out _ (by omega)).1 ?_)
  | (go_at_call 60; refine (AFT.out _ (by omega)).2.mono ?_; rintro e w10 ⟨rfl, t10, y10⟩
     have T10 := lH t10
     have Y10 := lH y10
     clear t10 y10))
 go_ret
 exact ⟨rfl, T10.out, Y10.out⟩
end
section
variable {Z : DK} {w0 W W' : World} {g gd gp gt n V r q c : Nat} {F C : Nat -> List UInt8} {E E' : Nat -> Prop}
theorem drop_st (a : T3 Z w0 W g gd gp gt n V r q c F C E) (hV : V <= 1073000000) (hq : q + 16 < 1073741824) (hc : c < 40) (k : Nat) (hk : k < 64) (at_ : Int) (l : Nat) (x : Ent) (hx : x.Ok) (hl : l < x.v)
 (ha : ∀ W E, T3 Z w0 W g gd gp gt n V r q c F C E -> Calls Tryz.prog 59 #[.pointer (some ⟨gt, 0, none⟩), .agg #[.int .i64 (k : Int), .int .i64 at_, .int .i64 (l : Int)]] W (RetE Z w0 W g gd gp gt n V r q c F C E x 0)) :
 Calls Tryz.prog 30 #[.pointer (some ⟨gt, 0, none⟩), .agg #[.int .i64 (k : Int), .int .i64 at_, .int .i64 (l : Int)]] W fun en W' => en = .returned (.int .i64 0) /\ T3 Z w0 W' g gd gp gt n V r (q + 16) (c + 1) (wrF F 2 (16 * k) (entB ⟨x.s, x.u, x.v - l⟩ 4) 16) C E /\ Only (fun k => ¬ E k) W W' := by
 refine drop_ok a k at_ l x.s x.u x.v (by omega) hx.v ha (fun W E b0 b1 b2 t z0 z1 z2 => ?_)
 have hs := pstore_any t hV hq hc ⟨x.s, x.u, x.v - l⟩ ⟨hx.s, hx.u, by have := hx.v; show x.v - l < _; omega⟩ k hk
 refine (drop1_st (Q := fun v W' => v = .int .i64 0 /\ T3 Z w0 W' g gd gp gt n V r (q + 16) (c + 1) (wrF F 2 (16 * k) (entB ⟨x.s, x.u, x.v - l⟩ 4) 16) C E /\ Only (fun k => ¬ E k) W W') (by show x.v - l ≠ 0; omega) z0 z1 z2 (hs.mono (fun en w' h => ⟨0, h.1, rfl, h.2⟩))).mono ?_
 rintro en w' ⟨y, rfl, hy, h⟩
 exact ⟨congrArg _ hy, h⟩
theorem drop_rel (a : T3 Z w0 W g gd gp gt n V r q c F C E) (hV : V <= 1073000000) (hq : q + 17 < 1073741824) (hc : c + 1 < 40) (k : Nat) (hk : k < 64) (at_ : Int) (x : Ent) (hx : x.v < 4294967296) (he : IsExt (F 1) (n - 2 - r) (x.s : Int) 16)
 (ha : ∀ W E, T3 Z w0 W g gd gp gt n V r q c F C E -> Calls Tryz.prog 59 #[.pointer (some ⟨gt, 0, none⟩), .agg #[.int .i64 (k : Int), .int .i64 at_, .int .i64 (x.v : Int)]] W (RetE Z w0 W g gd gp gt n V r q c F C E x 0)) :
 Calls Tryz.prog 30 #[.pointer (some ⟨gt, 0, none⟩), .agg #[.int .i64 (k : Int), .int .i64 at_, .int .i64 (x.v : Int)]] W fun en W' => en = .returned (.int .i64 0) /\ T3 Z w0 W' g gd gp gt n V r (q + 17) (c + 2) (wrF (upd F 1 (flipL (F 1) x.s 16)) 2 (16 * k) (entB .z 4) 16) C E /\ Only (fun k => ¬ E k) W W' := by
 refine drop_ok a k at_ x.v x.s x.u x.v (Nat.le_refl _) hx ha (fun W E b0 b1 b2 t z0 z1 z2 => ?_)
 have hs := release_any t hV hq hc ⟨x.s, x.u, x.v - x.v⟩ k hk he
 refine (drop1_rel (Q := fun v W' => v = .int .i64 0 /\ T3 Z w0 W' g gd gp gt n V r (q + 17) (c + 2) (wrF (upd F 1 (flipL (F 1) x.s 16)) 2 (16 * k) (entB .z 4) 16) C E /\ Only (fun k => ¬ E k) W W') (by show x.v - x.v = 0; omega) z0 z1 z2 (hs.mono (fun en w' h => ⟨0, h.1, rfl, h.2⟩))).mono ?_
 rintro en w' ⟨y, rfl, hy, h⟩
 exact ⟨congrArg _ hy, h⟩
end
section
variable {Z : DK} {w0 W W' : World} {g gd gp gt n V r q c : Nat} {F C : Nat -> List UInt8} {E E' : Nat -> Prop}
end
theorem gid_box (w : World) (q : List UInt8) : Bw ((w.alloc (.cells (cellsB (zer 32)).toArray 56)).setRow w.heap.size (cellsB q).toArray) w.heap.size 56 q := Bw.row (m := q) (Bw.new w (zer 32) 56)
theorem gid_below (w : World) (q : List UInt8) : Below w.heap.size w ((w.alloc (.cells (cellsB (zer 32)).toArray 56)).setRow w.heap.size (cellsB q).toArray) :=
 below_setRow ((Below.refl w.heap.size w).alloc (Nat.le_refl _) (.cells (cellsB (zer 32)).toArray 56)) (Nat.le_refl _) (cellsB q).toArray
theorem wpList_binN {P : Program} {ops : Array Oper} {rest : List Oper} {o : Oper} {a : Act} {w : World} {Q : Exit -> Act -> World -> Prop} (hg : o.guard = none) (b : BinOp) (t u : TypeId) (x y : Operand) (ho : o.op = .binOp b t x y u)
 (X Y V : Value) (hx : a.eval x = X) (hy : a.eval y = Y) (he : (eqGuard b t x y X Y).run P w = .ok () w) (hb : (binOp b t X Y).run P w = .ok V w) (h : wpList P ops Q rest (a.put o.dst V) w) : wpList P ops Q (o :: rest) a w := by
 refine wpList_plain hg fun K hK => ?_
 unfold Oper.wp execOp
 simp only [ho, hx, hy, Sem.run_bind, Sem.run_pure, Result.andThen_ok, he, hb]
 exact hK _ _ h
section
variable {Z : DK} {w0 W W' : World} {g gd gp gt n V r q c : Nat} {F C : Nat -> List UInt8} {E E' : Nat -> Prop}
def RetG (Z : DK) (w0 W : World) (g gd gp gt n V r q c : Nat) (F C : Nat -> List UInt8) (E : Nat -> Prop) (l : List UInt8) (f : Int) (en : Ending) (W' : World) : Prop :=
 ∃ A m c', en = .returned (.tuple #[.slice A m c', .int .i64 f]) /\ OwnB W' W.heap.size (.slice A m c') l /\ T3 Z w0 W' g gd gp gt n V r q c F C (fun k => E k \/ InB A k) /\ Only (fun k => ¬ E k) W W'
theorem get_o (K : FK) (a : T3 Z w0 W g gd gp gt n V r q c F C E) (hV : V <= 1073000000) (p : Int) (at_ N : Nat) (hat : at_ <= 4294967296) (hN : N <= 1073741824) (key : List UInt8) (hkey : key.length = 32) (x : Ent) (hxs : x.s <= 4294967296) (hin : ∀ d, d < N -> x.s + (at_ + d) / 512 < n - 2 - r)
 (ha : ∀ W E, T3 Z w0 W g gd gp gt n V r q c F C E -> Calls Tryz.prog 59 #[.pointer (some ⟨gt, 0, none⟩), .agg #[.int .i64 p, .int .i64 (at_ : Int), .int .i64 (N : Int)]] W (RetE Z w0 W g gd gp gt n V r q c F C E x 0)) (he : (ftake (rd F x.s at_ N)).e = 0) (hk : (ftake (rd F x.s at_ N)).key = key) (hs : ¬ (ftake (rd F x.s at_ N)).n < N) :
 Calls Tryz.prog 31 #[.pointer (some ⟨gt, 0, none⟩), .agg #[.int .i64 p, .int .i64 (at_ : Int), .int .i64 (N : Int)], .agg (cellsB key).toArray] W (RetG Z w0 W g gd gp gt n V r q c F C E (ftake (rd F x.s at_ N)).b 0) := by
 have A1 := (a.alloc (.cells #[.int .i64 p, .int .i64 (at_ : Int), .int .i64 (N : Int)] 44)).alloc (.cells (cellsB key).toArray 56)
 have CL := lH (ha _ _ A1)
 have HO := lH (ent_ones x)
 have HKEY := lH hkey
 have hltE : ∀ k, E k -> k < W.heap.size := fun k hk => (a.lt k hk).2
 obtain ⟨B, hB⟩ : ∃ B, W.heap.size = B := ⟨_, rfl⟩
 have sB : (W.alloc (.cells #[.int .i64 p, .int .i64 (at_ : Int), .int .i64 (N : Int)] 44)).heap.size = B + 1 := by simp [hB]
 obtain ⟨bs, hbs⟩ : ∃ bs, rd F x.s at_ N = bs := ⟨_, rfl⟩
 have hbl : bs.length = N := by rw [<- hbs, rd_len]
 rw [hbs] at he hk hs ⊢
 obtain ⟨tk, htk⟩ : ∃ tk, ftake bs = tk := ⟨_, rfl⟩
 have tl := ftake_len bs
 rw [htk] at he tl hk hs ⊢
 obtain ⟨tkey, tb, tn, te⟩ := tk
 simp only at he tl hk hs ⊢
 have zp0 : ((W.alloc (.cells #[.int .i64 p, .int .i64 (at_ : Int), .int .i64 (N : Int)] 44)).alloc (.cells (cellsB key).toArray 56)).heap[B]? = some (.cells #[.int .i64 p, .int .i64 (at_ : Int), .int .i64 (N : Int)] 44 (0, 0)) := by
  have e0 := heap_alloc_new W (.cells #[.int .i64 p, .int .i64 (at_ : Int), .int .i64 (N : Int)] 44)
  rw [hB] at e0
  exact (Below.heap_alloc _ _ B (by rw [sB]; omega)).trans e0
 have zk0 : Bw ((W.alloc (.cells #[.int .i64 p, .int .i64 (at_ : Int), .int .i64 (N : Int)] 44)).alloc (.cells (cellsB key).toArray 56)) (B + 1) 56 key := by
  have e0 := heap_alloc_new (W.alloc (.cells #[.int .i64 p, .int .i64 (at_ : Int), .int .i64 (N : Int)] 44)) (.cells (cellsB key).toArray 56)
  rw [sB] at e0
  exact e0
 have LP := lH (ld_place zp0)
 have FIN : Hid (∀ w5, T3 Z w0 w5 g gd gp gt n V r q c F C (fun k => (E k \/ k = W.heap.size) \/ k = (W.alloc (.cells #[.int .i64 p, .int .i64 (at_ : Int), .int .i64 (N : Int)] 44)).heap.size) -> Only (fun k => ¬ ((E k \/ k = W.heap.size) \/ k = (W.alloc (.cells #[.int .i64 p, .int .i64 (at_ : Int), .int .i64 (N : Int)] 44)).heap.size)) ((W.alloc (.cells #[.int .i64 p, .int .i64 (at_ : Int), .int .i64 (N : Int)] 44)).alloc (.cells (cellsB key).toArray 56)) w5 ->
  ∀ Y, Below w5.heap.size w5 Y -> Y.heap[B]? = some (.cells #[.int .i64 p, .int .i64 (at_ : Int), .int .i64 (N : Int)] 44 (0, 0)) /\ Calls Tryz.prog 64 #[.pointer (some ⟨gt, 0, none⟩), .int .i64 (x.s : Int), .int .i64 (at_ : Int), .int .i64 (N : Int)] Y fun e W' => ∃ A m c', e = .returned (.tuple #[.slice A m c', .int .i64 0]) /\ OwnB W' W.heap.size (.slice A m c') bs /\ T3 Z w0 W' g gd gp gt n V r q c F C E /\ Only (fun k => ¬ E k) W W' /\ Bw W' (B + 1) 56 key /\ W'.heap[B]? = some (.cells #[.int .i64 p, .int .i64 (at_ : Int), .int .i64 (N : Int)] 44 (0, 0)) /\ W.heap.size <= W'.heap.size) := lH (fun w5 t5 y5 Y hY => by
  rw [hB, sB] at t5 y5
  have l1 := (Array.getElem?_eq_some_iff.1 zp0).1
  have l2 := (Array.getElem?_eq_some_iff.1 zk0).1
  have p5 := (y5.block B l1 (fun h => h (.inl (.inr rfl)))).trans zp0
  have r5 : Bw w5 (B + 1) _ key := (y5.block (B + 1) l2 (fun h => h (.inr rfl))).trans zk0
  have p8 := (hY.block B (Array.getElem?_eq_some_iff.1 p5).1).trans p5
  have r8 : Bw Y (B + 1) _ key := (hY.block (B + 1) (Array.getElem?_eq_some_iff.1 r5).1).trans r5
  have g1 := (Array.getElem?_eq_some_iff.1 p8).1
  have g2 := (Array.getElem?_eq_some_iff.1 r8).1
  have q1 : Only (fun k => ¬ E k) W ((W.alloc (.cells #[.int .i64 p, .int .i64 (at_ : Int), .int .i64 (N : Int)] 44)).alloc (.cells (cellsB key).toArray 56)) := ((Only.refl _ W).alloc _).alloc _
  have yY := (q1.trans (y5.mono (fun k _ hk he => hk (.inl (.inl he))))).trans (Only.of_below (S := fun k => ¬ E k) hY (Nat.le_refl _))
  refine ⟨p8, ?_⟩
  have := pread_any (t5.up1 hY) hV x.s at_ N hxs hat (by omega) hin
  rw [hbs] at this
  refine this.mono ?_
  rintro e w9 ⟨A9, m9, c9, he9, o9, t9, y9⟩
  refine ⟨A9, m9, c9, he9, o9.less (by have := yY.size; omega), t9.less (fun k hk => .inl (.inl (.inl hk))), yY.trans (y9.mono (fun k _ hk he => hk (.inl (.inl he)))), (y9.block (B + 1) g2 (fun h => h (.inr rfl))).trans r8, (y9.block B g1 (fun h => h (.inl (.inr rfl)))).trans p8, ?_⟩
  have := yY.size; have := y9.size; omega)
 have TKH : Hid (∀ w A m c', OwnB w W.heap.size (.slice A m c') bs -> Calls Tryz.prog 65 #[.slice A m c'] w (RetTk w ⟨tkey, tb, tn, te⟩)) := lH (fun w A m c' o => by
  have := K.take_any w A m c' bs o.has o.caps.1 o.caps.2 (by have := o.len; omega)
  rwa [htk] at this)
 have IV := lH (id_iv tkey tl.1)
 have IZ := lH (id_hz tkey tl.1)
 have htn : tn <= 4246 := tl.2.2
 subst he
 subst hk
 have NE : Hid (∀ w, (binOp .neq 56 (.agg (cellsB tkey).toArray) (.agg (cellsB tkey).toArray)).run Tryz.prog w = .ok (.bool false) w) := lH (neq_id_same tkey hkey)
 clear a A1 ha hltE zp0 zk0 sB hin htk hbs tl hkey
 go_enter Tryz.func31, Tryz.ntmps31
 go_upto_region 4 with (first
  | (refine wpList_load8 rfl 44 (.tmp 4) rfl ⟨B, 0, none⟩ rfl _ LP.out ?_)
  | (go_at_call 59; refine CL.out.mono ?_; rintro e w5 h5
     obtain ⟨rfl, t5, y5⟩ := h5
     have FN := lH (FIN.out w5 t5 y5)
     clear t5 y5)
  | (refine wpList_store_row8 rfl 121 (.tmp 8) (.tmp 18) rfl w5.heap.size x.cells.toArray rfl rfl 121 _ (heap_alloc_new w5 _) infoEnt rfl HO.out ?_))
 have z8 : ((w5.alloc (.cells #[.int .i64 0, .int .i64 0, .int .i64 0] 121)).setRow w5.heap.size x.cells.toArray).heap[w5.heap.size]? = some (bx x) := setRow_heap _ _ _ _ 121 _ (heap_alloc_new w5 _)
 have b8 : Below w5.heap.size w5 ((w5.alloc (.cells #[.int .i64 0, .int .i64 0, .int .i64 0] 121)).setRow w5.heap.size x.cells.toArray) := below_setRow ((Below.refl _ _).alloc (Nat.le_refl _) _) (Nat.le_refl _) _
 obtain ⟨w8, hw8⟩ : ∃ w8, ((w5.alloc (.cells #[.int .i64 0, .int .i64 0, .int .i64 0] 121)).setRow w5.heap.size x.cells.toArray) = w8 := ⟨_, rfl⟩
 rw [hw8] at z8 b8
 rw [hw8]
 obtain ⟨p8, cr⟩ := FN.out w8 b8
 have CR := lH cr
 obtain ⟨gm, hgm⟩ : ∃ gm, w5.heap.size = gm := ⟨_, rfl⟩
 rw [hgm] at z8
 simp only [hgm]
 have cs : w8.cell? ⟨gm, 0, none⟩ = some (.int .i64 (x.s : Int)) := cell_of_row w8 gm 0 _ _ _ z8
 have ca : w8.cell? ⟨B, 1, none⟩ = some (.int .i64 (at_ : Int)) := cell_of_row w8 B 1 _ _ _ p8
 have cn : w8.cell? ⟨B, 2, none⟩ = some (.int .i64 (N : Int)) := cell_of_row w8 B 2 _ _ _ p8
 clear hw8 hgm z8 b8 p8 cr
 go_upto_region 8 with (first
  | (go_at_call 64; refine CR.out.mono ?_; rintro e w9 ⟨A9, m9, c9, rfl, o9, t9, y9, k9, p9, s9⟩
     have O9 := lH o9
     have T9 := lH t9
     have Y9 := lH y9
     have K9 := lH k9
     have P9 := lH p9
     have S9 := lH s9
     clear o9 t9 y9 k9 p9 s9)
  | (go_at_call 65; refine (TKH.out _ _ _ _ O9.out).mono ?_; rintro e w10 ⟨A3, n3, c3, rfl, o3, b3⟩
     have O3 := lH o3
     have B3 := lH b3
     clear o3 b3)
  | (refine wpList_store_row rfl 56 (.tmp 11) (.tmp 40) rfl w10.heap.size (cellsB tkey).toArray rfl rfl ?a4 ?a5 ?a6 ?a7 ?a8 ?a9 ?a10
     (case a6 => exact (Bw.new w10 (zer 32) 56))
     (case a7 => exact IV.out)
     (case a8 => exact IZ.out)
     (case a9 => exact (cellsB_ones _))))
 have hrow := gid_below w10 tkey
 have hbx := gid_box w10 tkey
 generalize hW4 : World.setRow _ _ _ = W4
 rw [show (w10.alloc (.cells (cellsB (zer 32)).toArray 56)).setRow w10.heap.size (cellsB tkey).toArray = W4 from hW4] at hrow hbx
 obtain ⟨gk, hgk⟩ : ∃ gk, w10.heap.size = gk := ⟨_, rfl⟩
 have b94 : Below w9.heap.size w9 W4 := B3.out.trans (hrow.mono B3.out.size)
 have LK := lH (hbx.load (by have := IV.out; rw [cellsB_size] at this; exact (Option.some.inj (infoID.symm.trans this)).symm))
 have k4 : Bw W4 (B + 1) _ tkey := (b94.block (B + 1) (Array.getElem?_eq_some_iff.1 K9.out).1).trans K9.out
 have p4 := (b94.block B (Array.getElem?_eq_some_iff.1 P9.out).1).trans P9.out
 have LB := lH (k4.load HKEY.out)
 have LN := lH (load_intc (cell_of_row W4 B 2 _ _ _ p4))
 have T4 := lH (T9.out.add (E' := fun k => E k \/ InB A3 k) (Only.of_below b94 (Nat.le_refl _)) (fun k hk => hk.imp id (fun h => by
  obtain ⟨a, ha, rfl⟩ := h
  have h1 := O3.out.lt a.block (by rw [ha]; rfl)
  have h2 := hrow.size
  exact ⟨h1.1, by omega⟩)))
 have Y4 := lH (Y9.out.trans (Only.of_below (S := fun k => ¬ E k) b94 (Nat.le_refl _)))
 have O4 := lH ((O3.out.below hrow).less S9.out)
 have LT := lH (fun k hk => O4.out.lt k hk)
 clear hW4 hbx hrow b94 k4 p4
 simp only [hgk] at LK ⊢
 clear hgk
 go_wp2_with (first
  | (refine wpList_load8 rfl 56 (.tmp 11) rfl ⟨gk, 0, none⟩ rfl _ LK.out ?_)
  | (refine wpList_load8 rfl 56 (.tmp 5) rfl ⟨B + 1, 0, none⟩ rfl _ LB.out ?_)
  | (refine wpList_binN rfl .neq 56 56 (.tmp 47) (.tmp 48) rfl _ _ (.bool false) rfl rfl (guard_neq_id _ _ _ _ _) (NE.out _) ?_)
  | (refine wpList_loadG (by rfl) 3 (.tmp 52) rfl ⟨B, 2, none⟩ rfl _ LN.out ?_))
 go_ret2
 exact ⟨A3, n3, c3, rfl, O4.out, T4.out, Y4.out⟩
end
section
variable {Z : DK} {w0 W W' : World} {g gd gp gt n V r q c : Nat} {F C : Nat -> List UInt8} {E E' : Nat -> Prop}
end
def RetLo2 (X : (Nat -> List UInt8) -> List ByteArray -> Prop) (Z : DK) (w0 W : World) (g gd gp gt n V r q : Nat) (b : List UInt8) (E : Nat -> Prop) (en : Ending) (W' : World) : Prop :=
 ∃ gm, en = .returned (.tuple #[.pointer (some ⟨gm, 0, none⟩), .int .i64 0]) /\ BM W' gm (n - 2 - r) b /\ SpU X Z w0 W' g gd gp gt n V r q b (fun k => E k \/ k = gm) /\ ¬ E gm /\ Only (fun k => ¬ (E k \/ k = gt)) W W'
def RetSp2 (X : (Nat -> List UInt8) -> List ByteArray -> Prop) (Z : DK) (w0 W : World) (g gd gp gt n V r q : Nat) (b : List UInt8) (E : Nat -> Prop) (v : Value) (en : Ending) (W' : World) : Prop :=
 en = .returned v /\ SpU X Z w0 W' g gd gp gt n V r q b E /\ Only (fun k => ¬ (E k \/ k = gt)) W W'
section
variable {X : (Nat -> List UInt8) -> List ByteArray -> Prop} {Z : DK} {w0 W W' : World} {g gd gp gt n V r q : Nat} {b : List UInt8} {E : Nat -> Prop}
theorem SpU.see2 (a : SpU X Z w0 W g gd gp gt n V r q b E) (hV : V <= 1073000000) :
 Calls Tryz.prog 91 #[.pointer (some ⟨gt, 0, none⟩), .int .i64 ((1 : Nat) : Int)] W fun en W' => ∃ A m c, en = .returned (.tuple #[.slice A m c, .int .i64 0]) /\ HasB W' W'.heap.size A m b /\ SpU X Z w0 W' g gd gp gt n V r q b E /\ Only (fun k => ¬ (E k \/ k = gt)) W W' := by
 have sz := a.sz hV
 obtain ⟨p, j, T, u, H, ws, M, U, s, t, x1, x2, x3, x4, x5⟩ := a
 by_cases h1 : (ws.getD 1 emp).size = 0
 · refine (tread_up U s hV t 1 (by omega) h1).mono ?_
   rintro en W' ⟨A, m, c, he, hx, u2, y⟩
   have e : H 1 = b := by rw [<- x1]; unfold txH; rw [if_neg (by rw [h1]; exact fun h => h rfl)]
   rw [e] at hx
   refine ⟨A, m, c, he, hx.has, ⟨p, j, T, u, H, ws, M, u2.less (fun k hk => .inl hk), s, t.only y (fun h => h (.inl (.inl rfl))) (fun k hk h => h (.inl (.inr hk))), x1, x2, x3, x4, x5⟩, y.mono (fun k _ hk h => h.elim (fun h => hk (.inr h)) (fun h => hk (.inl (.inl h))))⟩
 · refine (tread_own t 1 (by omega) h1).mono ?_
   rintro en W' ⟨A, m, c, he, hx, hb⟩
   have e : lst (ws.getD 1 emp) = b := by rw [<- x1]; unfold txH; rw [if_pos h1]
   rw [e] at hx
   exact ⟨A, m, c, he, hx.has, ⟨p, j, T, u, H, ws, M, U.below hb, s, t.below hb, x1, x2, x3, x4, x5⟩, Only.of_below hb (Nat.le_refl _)⟩
theorem load_any2 (a : SpU X Z w0 W g gd gp gt n V r q b E) (hV : V <= 1073000000) : Calls Tryz.prog 53 #[.pointer (some ⟨gt, 0, none⟩)] W (RetLo2 X Z w0 W g gd gp gt n V r q b E) := by
 have CS := lH (a.see2 hV)
 have hl := (a.sz hV).2.2
 have CH : Hid (∀ W, SpU X Z w0 W g gd gp gt n V r q b E -> Calls Tryz.prog 92 #[.pointer (some ⟨gt, 0, none⟩)] W (RetV2 W (.int .i64 ((n - 2 - r : Nat) : Int)))) := lH (fun W s => s.homesT hV)
 obtain ⟨h, hh⟩ : ∃ h, n - 2 - r = h := ⟨_, rfl⟩
 rw [hh] at CH
 have HH := lH hh
 have HL := lH hl
 have BB := lH (built_bm b hl (h : Int))
 clear a hh hl
 go_enter Tryz.func53, Tryz.ntmps53
 go_upto_region 4 with (first
  | (go_at_call 91; refine CS.out.mono ?_; rintro e w1 ⟨A1, m1, c1, rfl, hx1, s1, y1⟩
     have hm1 := hx1.len
     rw [HL.out] at hm1
     subst hm1
     obtain ⟨g1, o1, rfl, _, _⟩ := hx1.2 (by omega)
     have X1 := lH hx1
     have S1 := lH s1
     have Y1 := lH y1
     clear hx1 s1 y1))
 refine wp_region_held_drew (S := fun W => Below w1.heap.size w1 W) (by kernel_rfl) (Below.refl _ w1).drew (fun hHeld => ?_)
 refine tk9 (i := 0) (h := ?_)
 try simp only [aP,aN,aS,aZ,aC]
 refine tk9 (i := 1) (hy := (yieldsIf_arr2 (by rfl) 117 _ 512 (.tmp 14) rfl Tryz.underlying117 _ _ _ rfl (Nat.le_refl _))) (h := ?_)
 try simp only [aP,aN,aS,aZ,aC]
 refine tk9 (i := 2) (hy := (yieldsIf_loadG (by rfl) 117 (.tmp 15) rfl ⟨g1, o1, none⟩ rfl _ (fun W hW => (X1.out.on hW).load_bits HL.out))) (h := ?_)
 try simp only [aP,aN,aS,aZ,aC]
 refine tk9 (i := 3) (h := ?_)
 try simp only [aP,aN,aS,aZ,aC]
 refine rd9 (i := 4) (h := fun K hK => ?_)
 go_simp
 refine (CH.out _ (S1.out.below (Below.refl _ w1).drew)).mono ?_
 rintro en w6 ⟨rfl, b6⟩
 have S6 : Below w1.heap.size w1 w6 := ((Below.refl w1.heap.size w1).drew).trans (b6.mono (Nat.le_refl _))
 refine hK _ _ S6 (fun hH4 => ?_)
 clear hK K
 try simp only [aP,aN,aS,aZ,aC]
 refine tk9 (i := 5) (hy := (yieldsIf_build2 (by rfl) 119 0 1 (.tmp 16) (.tmp 18) rfl _ _ rfl rfl _ BB.out)) (h := ?_)
 try simp only [aP,aN,aS,aZ,aC]
 refine rd9 (i := 6) (h := fun K hK => ?_)
 go_simp
 generalize hWa : World.alloc _ _ = w7
 have b67 : Below w6.heap.size w6 w7 := by rw [<- hWa]; exact (Below.refl _ w6).alloc (Nat.le_refl _) _
 have S7 : Below w1.heap.size w1 w7 := S6.trans (b67.mono S6.size)
 have bm7 : BM w7 w6.heap.size h b := ⟨by rw [<- hWa]; exact heap_alloc_new w6 _, HL.out⟩
 clear hWa
 refine hK _ _ S7 (fun hH6 => ?_)
 clear hK K
 try simp only [aP,aN,aS,aZ,aC]
 refine tk9 (i := 7) (h := ?_)
 try simp only [aP,aN,aS,aZ,aC]
 refine tk9 (i := 8) (h := ?_)
 try simp only [aP,aN,aS,aZ,aC]
 refine wpAnyH_done (by kernel_rfl) ?_ _
 go_wp2_with fail
 go_ret2
 rw [<- HH.out] at bm7
 have s6 := S1.out.below S6
 refine ⟨w6.heap.size, rfl, bm7, s6.add (Only.of_below b67 (Nat.le_refl _)) (fun k hk => hk.imp id (fun h => by have := bm7.lt; omega)), fun h => by have := (s6.lt _ h).2; omega, Y1.out.trans' (Only.of_below S7 (Nat.le_refl _)) (fun _ _ h => h)⟩
theorem take_no2 (a : SpU X Z w0 W g gd gp gt n V r q b E) (hV : V <= 1073000000) (k : Nat) (h1 : 1 <= k) (h2 : k <= 64) (hg : NoGap b (n - 2 - r) k) :
 Calls Tryz.prog 25 #[.pointer (some ⟨gt, 0, none⟩), .int .i64 (k : Int)] W (RetSp2 X Z w0 W g gd gp gt n V r q b E (.tuple #[.int .i64 0, .int .i64 7])) := by
 have sz := a.sz hV
 have CL := lH (load_any2 a hV)
 have CM : Hid (∀ W, Calls Tryz.prog 54 #[.int .i64 (k : Int)] W fun e w' => e = .returned (.bool true) /\ W = w') := lH (fun W => may_any (k : Int) W (by omega) true (decide_eq_true (by omega)))
 have GG := lH hg
 have HS := lH sz.2.1
 clear a hg
 go_enter Tryz.func25, Tryz.ntmps25
 go_wp2_with (first
  | (go_at_call 53; refine CL.out.mono ?_; rintro e w1 ⟨gm, rfl, bm, s1, ne, y1⟩
     have CG := lH (bm.gap_no HS.out k h1 h2 GG.out)
     have S1 := lH (s1.less (E' := E) (fun q hq => .inl hq))
     have Y1 := lH y1
     clear bm s1 ne y1)
  | (go_at_call 54; refine (CM.out _).mono ?_; rintro e w2 ⟨rfl, rfl⟩)
  | (go_at_call 55; refine CG.out.mono ?_; rintro e w2 ⟨rfl, rfl⟩))
 go_ret2
 exact ⟨rfl, S1.out, Y1.out⟩
end
section
variable {Z : DK} {w0 W W' : World} {g gd gp gt n V r q c : Nat} {F C : Nat -> List UInt8} {E E' : Nat -> Prop}
theorem T3.take_none2 (a : T3 Z w0 W g gd gp gt n V r q c F C E) (hV : V <= 1073000000) (hq : q < 1073741824) (hc : c < 40) (k : Nat) (h1 : 1 <= k) (h2 : k <= 64) (ng : NoGap (F 1) (n - 2 - r) k) :
 Calls Tryz.prog 25 #[.pointer (some ⟨gt, 0, none⟩), .int .i64 (k : Int)] W fun en W' => en = .returned (.tuple #[.int .i64 0, .int .i64 7]) /\ T3 Z w0 W' g gd gp gt n V r (q + 1) (c + 1) F C E /\ Only (fun k => ¬ E k) W W' /\ W'.heap[gt]? = W.heap[gt]? := by
 obtain ⟨_, _, hrow⟩ := a.row
 have hlt := (Array.getElem?_eq_some_iff.1 hrow).1
 obtain ⟨D, q', h, t, hd⟩ := a
 have sp := t.sp (.inr (by omega))
 refine (take_no2 sp hV k h1 h2 ng).mono ?_
 rintro en W' ⟨rfl, s', y⟩
 have e : ∀ i, upd F 1 (F 1) i = F i := fun i => by
  by_cases hi : i = 1
  · rw [hi, upd_same]
  · rw [upd_ne hi]
 exact ⟨rfl, (T3.of_sp (by omega) hd s').congr (fun i _ => e i) (fun _ _ => rfl), y.mono (fun k _ hk he => hk (.inl he)), y.block gt hlt (fun h => h (.inr rfl))⟩
end
def plC (a b c : Int) : List Value := [.int .i64 a, .int .i64 b, .int .i64 c]
theorem pl_ones (a b c : Int) : ∀ v ∈ (plC a b c).toArray.toList, v.oneCell' = true := by
 intro v hv
 simp [plC] at hv
 rcases hv with rfl | rfl | rfl <;> rfl
theorem results_pl {fn : Func} {p u : Tmp} (h : fn.results = #[.cell p 44, .tmp u]) (tmps : Array Value) (w : World) (g : Nat) (a b c : Int) (hp : tmps.getD p undef = .pointer (some ⟨g, 0, none⟩)) (hg : w.heap[g]? = some (.cells (plC a b c).toArray 44 (0, 0))) :
 (results fn tmps).run Tryz.prog w = .ok (.tuple #[.agg (plC a b c).toArray, tmps.getD u undef]) w := by
 have hl := ld_place (w := w) (b := g) (p := a) (a := b) (l := c) hg
 have ha : (asAddr (.pointer (some ⟨g, 0, none⟩))).run Tryz.prog w = .ok ⟨g, 0, none⟩ w := by simp [asAddr, go_sem]
 rw [results_cell_tmp h, hp, ha]
 simp only [Result.andThen, hl]
 rfl
section
variable {Z : DK} {w0 W W' : World} {g gd gp gt n V r q c q2 c2 : Nat} {F G C : Nat -> List UInt8} {E E' : Nat -> Prop}
def RetPl (Z : DK) (w0 W : World) (g gd gp gt n V r q c : Nat) (F C : Nat -> List UInt8) (E : Nat -> Prop) (x y z f : Int) (en : Ending) (W' : World) : Prop :=
 en = .returned (.tuple #[.agg (plC x y z).toArray, .int .i64 f]) /\ T3 Z w0 W' g gd gp gt n V r q c F C E /\ Only (fun k => ¬ E k) W W'
theorem add_of (a : T3 Z w0 W g gd gp gt n V r q c F C E) (key : List UInt8) (hkey : key.length = 32) (A : Option Addr) (N cA : Nat) (b : List UInt8) (hA : HasB W W.heap.size A N b) (hE : ∀ a, A = some a -> 0 < N -> E a.block) (x y z f : Int)
 (ha : ∀ W E, T3 Z w0 W g gd gp gt n V r q c F C E -> HasB W W.heap.size A N b -> (∀ a, A = some a -> 0 < N -> E a.block) -> Calls Tryz.prog 43 #[.pointer (some ⟨gt, 0, none⟩), .agg (cellsB key).toArray, .slice A N cA, .func (.func 46) #[] #[]] W (RetPl Z w0 W g gd gp gt n V r q2 c2 G C E x y z f)) :
 Calls Tryz.prog 18 #[.pointer (some ⟨gt, 0, none⟩), .agg (cellsB key).toArray, .slice A N cA] W (RetPl Z w0 W g gd gp gt n V r q2 c2 G C E x y z f) := by
 have A1 := (a.alloc (.cells (cellsB key).toArray 56)).alloc (.cells #[.int .i64 0, .int .i64 0, .int .i64 0] 44)
 have bA : Below W.heap.size W ((W.alloc (.cells (cellsB key).toArray 56)).alloc (.cells #[.int .i64 0, .int .i64 0, .int .i64 0] 44)) := ((Below.refl W.heap.size W).alloc (Nat.le_refl _) _).alloc (by simp) _
 have CL := lH (ha _ _ A1 (hA.on bA) (fun a h h0 => .inl (.inl (hE a h h0))))
 have hltE : ∀ k, E k -> k < W.heap.size := fun k hk => (a.lt k hk).2
 obtain ⟨B, hB⟩ : ∃ B, W.heap.size = B := ⟨_, rfl⟩
 have sB : (W.alloc (.cells (cellsB key).toArray 56)).heap.size = B + 1 := by simp [hB]
 have zk0 : Bw ((W.alloc (.cells (cellsB key).toArray 56)).alloc (.cells #[.int .i64 0, .int .i64 0, .int .i64 0] 44)) B 56 key := by
  have e0 := heap_alloc_new W (.cells (cellsB key).toArray 56)
  rw [hB] at e0
  exact (Below.heap_alloc _ _ B (by rw [sB]; omega)).trans e0
 have zp0 : ((W.alloc (.cells (cellsB key).toArray 56)).alloc (.cells #[.int .i64 0, .int .i64 0, .int .i64 0] 44)).heap[B + 1]? = some (.cells #[.int .i64 0, .int .i64 0, .int .i64 0] 44 (0, 0)) := by
  have e0 := heap_alloc_new (W.alloc (.cells (cellsB key).toArray 56)) (.cells #[.int .i64 0, .int .i64 0, .int .i64 0] 44)
  rw [sB] at e0
  exact e0
 have LK := lH (zk0.load hkey)
 have FIN : Hid (∀ w5, RetPl Z w0 ((W.alloc (.cells (cellsB key).toArray 56)).alloc (.cells #[.int .i64 0, .int .i64 0, .int .i64 0] 44)) g gd gp gt n V r q2 c2 G C (fun k => (E k \/ k = W.heap.size) \/ k = (W.alloc (.cells (cellsB key).toArray 56)).heap.size) x y z f (.returned (.tuple #[.agg (plC x y z).toArray, .int .i64 f])) w5 -> w5.heap[B + 1]? = some (.cells #[.int .i64 0, .int .i64 0, .int .i64 0] 44 (0, 0)) /\ ∀ cs, T3 Z w0 (w5.setRow (B + 1) cs) g gd gp gt n V r q2 c2 G C E /\ Only (fun k => ¬ E k) W (w5.setRow (B + 1) cs)) := lH (fun w5 h => by
  obtain ⟨_, t5, y5⟩ := h
  rw [hB, sB] at t5 y5
  have l2 := (Array.getElem?_eq_some_iff.1 zp0).1
  refine ⟨(y5.block (B + 1) l2 (fun h => h (.inr rfl))).trans zp0, fun cs => ?_⟩
  have q1 : Only (fun k => ¬ E k) W ((W.alloc (.cells (cellsB key).toArray 56)).alloc (.cells #[.int .i64 0, .int .i64 0, .int .i64 0] 44)) := ((Only.refl _ W).alloc _).alloc _
  have yR : Only (fun k => k = B + 1) w5 (w5.setRow (B + 1) cs) := Only.setRow (S := fun k => k = B + 1) (Only.refl _ w5) (g := B + 1) rfl cs
  refine ⟨t5.add (E' := E) (yR.mono (fun k _ hk => .inl (.inr hk))) (fun k hk => .inl (.inl (.inl hk))), ?_⟩
  exact (q1.trans (y5.mono (fun k _ hk he => hk (.inl (.inl he))))).trans (yR.mono (fun k _ hk he => by have := hltE k he; omega)))
 clear a A1 ha hltE zk0 zp0 sB hA hE bA
 go_enter Tryz.func18, Tryz.ntmps18
 go_wp2_with (first
  | (refine wpList_load8 rfl 56 (.tmp 4) rfl ⟨B, 0, none⟩ rfl _ LK.out ?_)
  | (go_at_call 43; refine CL.out.mono ?_; rintro e w5 h5
     obtain ⟨rfl, t5, y5⟩ := h5
     obtain ⟨zr, fn⟩ := FIN.out w5 ⟨rfl, t5, y5⟩
     have ZR := lH zr
     have U9 := lH fn
     clear t5 y5 zr fn)
  | (refine wpList_store_row8 rfl 44 (.tmp 6) (.tmp 12) rfl (B + 1) (plC x y z).toArray rfl rfl 44 _ ZR.out infoPlace rfl (pl_ones _ _ _) ?_))
 refine bodyPost_ret (v := .tuple #[.agg (plC x y z).toArray, .int .i64 f]) ?_ (by rfl) ⟨rfl, U9.out _⟩
 exact results_pl (p := 6) (u := 7) rfl _ _ (B + 1) x y z (by rfl) (setRow_heap _ _ _ _ 44 _ ZR.out)
end
section
variable {Z : DK} {w0 W W' : World} {g gd gp gt n V r q c q2 c2 : Nat} {F G C : Nat -> List UInt8} {E E' : Nat -> Prop}
end
section
variable {Z : DK} {w0 W W' : World} {g gd gp gt n V r q c q2 c2 : Nat} {F G C : Nat -> List UInt8} {E E' : Nat -> Prop}
end
section
variable {Z : DK} {w0 W W' : World} {g gd gp gt n V r q c q2 c2 : Nat} {F G C : Nat -> List UInt8} {E E' : Nat -> Prop}
structure AddS (Z : DK) (w0 W Y : World) (g gd gp gt n V r q c : Nat) (F C : Nat -> List UInt8) (E : Nat -> Prop) (B B5 gl : Nat) (A5 : Option Addr) (sz c5 : Nat) (f : List UInt8) : Prop where
 tx : Y.heap[B]? = some (.cells #[.pointer (some ⟨gt, 0, none⟩)] 26 (0, 0))
 pl : Y.heap[B + 2]? = some (.cells #[.int .i64 0, .int .i64 0, .int .i64 0] 44 (0, 0))
 bs : Y.heap[B5]? = some (.cells #[.slice A5 sz c5] 34 (0, 0))
 has : HasB Y Y.heap.size A5 sz f
 c1 : sz <= c5
 c2 : c5 <= maxLen
 t : T3 Z w0 Y g gd gp gt n V r q c F C (fun k => E k \/ ((B <= k /\ k <= B5) \/ k = gl))
 y : Only (fun k => ¬ E k) W Y
 b5 : B + 3 <= B5
 gl : B5 < gl
 ib : ∀ a, A5 = some a -> B + 3 <= a.block /\ a.block < B5
end
section
variable {Z : DK} {w0 W W' : World} {g gd gp gt n V r q c q2 c2 : Nat} {F G C : Nat -> List UInt8} {E E' : Nat -> Prop}
theorem adda_o (K : FK) (a : T3 Z w0 W g gd gp gt n V r q c F C E) (hV : V <= 1073000000) (key : List UInt8) (hkey : key.length = 32) (A : Option Addr) (N cA : Nat) (b : List UInt8) (hA : HasB W W.heap.size A N b) (hcA : N <= cA) (hcB : cA <= maxLen) (hN : N <= 1073741824) (hl : b.length <= 4200) (sz : Nat) (hsz : sz = b.length + 46) (k : Nat) (hk : k < 64)
 (hch : ∀ W gl cur, W.heap[gl]? = some (.cells cur 204 (0, 0)) -> TabC F 64 cur -> Calls Tryz.prog 46 #[.pointer (some ⟨gl, 0, none⟩), .int .i64 (sz : Int)] W fun e w' => e = .returned (.tuple #[.int .i64 (k : Int), .bool true]) /\ Below W.heap.size W w')
 (hd : ∀ W E b0 b1 b2 b3 A' c', T3 Z w0 W g gd gp gt n V r q c F C E -> W.heap[b0]? = some (bx (TE F k)) -> W.cell? ⟨b1, 0, none⟩ = some (.pointer (some ⟨gt, 0, none⟩)) -> W.cell? ⟨b2, 0, none⟩ = some (.int .i64 (k : Int)) -> W.cell? ⟨b3, 0, none⟩ = some (.slice A' sz c') -> HasB W W.heap.size A' sz (frmL key b) -> sz <= c' -> c' <= maxLen -> (∀ a, A' = some a -> 0 < sz -> E a.block) -> Calls Tryz.prog 83 #[.pointer (some ⟨b0, 0, none⟩), .pointer (some ⟨b1, 0, none⟩), .pointer (some ⟨b2, 0, none⟩), .pointer (some ⟨b3, 0, none⟩)] W fun en W' => en = .returned (.int .i64 0) /\ T3 Z w0 W' g gd gp gt n V r q2 c2 G C E /\ Only (fun k => ¬ E k) W W') :
 Calls Tryz.prog 43 #[.pointer (some ⟨gt, 0, none⟩), .agg (cellsB key).toArray, .slice A N cA, .func (.func 46) #[] #[]] W (RetPl Z w0 W g gd gp gt n V r q2 c2 G C E (k : Int) ((TE F k).u : Int) (sz : Int) 0) := by
 have A1 := ((a.alloc (.cells #[.pointer (some ⟨gt, 0, none⟩)] 26)).alloc (.cells (cellsB key).toArray 56)).alloc (.cells #[.int .i64 0, .int .i64 0, .int .i64 0] 44)
 have hltE : ∀ k, E k -> k < W.heap.size := fun k hk => (a.lt k hk).2
 obtain ⟨B, hB⟩ : ∃ B, W.heap.size = B := ⟨_, rfl⟩
 have sB : (W.alloc (.cells #[.pointer (some ⟨gt, 0, none⟩)] 26)).heap.size = B + 1 := by simp [hB]
 have sB2 : ((W.alloc (.cells #[.pointer (some ⟨gt, 0, none⟩)] 26)).alloc (.cells (cellsB key).toArray 56)).heap.size = B + 2 := by simp [hB]
 have sB3 : (((W.alloc (.cells #[.pointer (some ⟨gt, 0, none⟩)] 26)).alloc (.cells (cellsB key).toArray 56)).alloc (.cells #[.int .i64 0, .int .i64 0, .int .i64 0] 44)).heap.size = B + 3 := by simp [hB]
 rw [hB, sB, sB2] at A1
 have bA : Below W.heap.size W (((W.alloc (.cells #[.pointer (some ⟨gt, 0, none⟩)] 26)).alloc (.cells (cellsB key).toArray 56)).alloc (.cells #[.int .i64 0, .int .i64 0, .int .i64 0] 44)) := (((Below.refl W.heap.size W).alloc (Nat.le_refl _) _).alloc (by simp) _).alloc (by simp; omega) _
 have zt0 : (((W.alloc (.cells #[.pointer (some ⟨gt, 0, none⟩)] 26)).alloc (.cells (cellsB key).toArray 56)).alloc (.cells #[.int .i64 0, .int .i64 0, .int .i64 0] 44)).heap[B]? = some (.cells #[.pointer (some ⟨gt, 0, none⟩)] 26 (0, 0)) := by
  have e0 := heap_alloc_new W (.cells #[.pointer (some ⟨gt, 0, none⟩)] 26)
  rw [hB] at e0
  exact (Below.heap_alloc _ _ B (by rw [sB2]; omega)).trans ((Below.heap_alloc _ _ B (by rw [sB]; omega)).trans e0)
 have zk0 : Bw (((W.alloc (.cells #[.pointer (some ⟨gt, 0, none⟩)] 26)).alloc (.cells (cellsB key).toArray 56)).alloc (.cells #[.int .i64 0, .int .i64 0, .int .i64 0] 44)) (B + 1) 56 key := by
  have e0 := heap_alloc_new (W.alloc (.cells #[.pointer (some ⟨gt, 0, none⟩)] 26)) (.cells (cellsB key).toArray 56)
  rw [sB] at e0
  exact (Below.heap_alloc _ _ (B + 1) (by rw [sB2]; omega)).trans e0
 have zp0 : (((W.alloc (.cells #[.pointer (some ⟨gt, 0, none⟩)] 26)).alloc (.cells (cellsB key).toArray 56)).alloc (.cells #[.int .i64 0, .int .i64 0, .int .i64 0] 44)).heap[B + 2]? = some (.cells #[.int .i64 0, .int .i64 0, .int .i64 0] 44 (0, 0)) := by
  have e0 := heap_alloc_new ((W.alloc (.cells #[.pointer (some ⟨gt, 0, none⟩)] 26)).alloc (.cells (cellsB key).toArray 56)) (.cells #[.int .i64 0, .int .i64 0, .int .i64 0] 44)
  rw [sB2] at e0
  exact e0
 have LK := lH (zk0.load hkey)
 have hAb : HasB (((W.alloc (.cells #[.pointer (some ⟨gt, 0, none⟩)] 26)).alloc (.cells (cellsB key).toArray 56)).alloc (.cells #[.int .i64 0, .int .i64 0, .int .i64 0] 44)) (((W.alloc (.cells #[.pointer (some ⟨gt, 0, none⟩)] 26)).alloc (.cells (cellsB key).toArray 56)).alloc (.cells #[.int .i64 0, .int .i64 0, .int .i64 0] 44)).heap.size A N b := hA.on bA
 have CP := lH (K.put_any (((W.alloc (.cells #[.pointer (some ⟨gt, 0, none⟩)] 26)).alloc (.cells (cellsB key).toArray 56)).alloc (.cells #[.int .i64 0, .int .i64 0, .int .i64 0] 44)) A N cA key b hAb hcA hcB hN hkey)
 obtain ⟨f, hf⟩ : ∃ f, frmL key b = f := ⟨_, rfl⟩
 have fl : f.length = sz := by rw [<- hf, frmL_len _ _ hkey, hsz]; omega
 rw [fputL_ok hl, fputE_ok hl, hf] at CP
 rw [hf] at hd
 have FIN : Hid (∀ w5 A5 n5 c5, OwnB w5 (((W.alloc (.cells #[.pointer (some ⟨gt, 0, none⟩)] 26)).alloc (.cells (cellsB key).toArray 56)).alloc (.cells #[.int .i64 0, .int .i64 0, .int .i64 0] 44)).heap.size (.slice A5 n5 c5) f -> Below (((W.alloc (.cells #[.pointer (some ⟨gt, 0, none⟩)] 26)).alloc (.cells (cellsB key).toArray 56)).alloc (.cells #[.int .i64 0, .int .i64 0, .int .i64 0] 44)).heap.size (((W.alloc (.cells #[.pointer (some ⟨gt, 0, none⟩)] 26)).alloc (.cells (cellsB key).toArray 56)).alloc (.cells #[.int .i64 0, .int .i64 0, .int .i64 0] 44)) w5 -> n5 = sz /\ ∀ Y, Below w5.heap.size w5 Y -> Y.heap[w5.heap.size]? = some (.cells #[.slice A5 sz c5] 34 (0, 0)) ->
  (loadVar 26 ⟨B, 0, none⟩).run Tryz.prog Y = .ok (.pointer (some ⟨gt, 0, none⟩)) Y /\
  Calls Tryz.prog 82 #[.pointer (some ⟨gt, 0, none⟩)] Y fun en w7 => ∃ gl cur, en = .returned (.tuple #[.pointer (some ⟨gl, 0, none⟩), .int .i64 0]) /\ w7.heap[gl]? = some (.cells cur 204 (0, 0)) /\ TabC F 64 cur /\ AddS Z w0 W w7 g gd gp gt n V r q c F C E B w5.heap.size gl A5 sz c5 f) := lH (fun w5 A5 n5 c5 o5 b5 => by
  have hn : n5 = sz := by rw [o5.len, fl]
  refine ⟨hn, fun Y hY hz => ?_⟩
  subst hn
  have bW := bA.trans ((b5.trans (hY.mono b5.size)).mono bA.size)
  have b35 := b5.trans (hY.mono b5.size)
  have z1 := (b35.block B (by rw [sB3]; omega)).trans zt0
  have z3 := (b35.block (B + 2) (by rw [sB3]; omega)).trans zp0
  have hlt5 := (Array.getElem?_eq_some_iff.1 hz).1
  have hs5 : B + 3 <= w5.heap.size := by have := b5.size; omega
  have t6 := a.add (E' := fun k => E k \/ (B <= k /\ k < Y.heap.size)) (Only.of_below bW (Nat.le_refl _)) (fun k hk => hk.imp id (fun h => by rw [hB]; exact h))
  have oY := o5.below hY
  refine ⟨ld_txp z1, (ltab_any t6 hV).mono ?_⟩
  rintro en w7 ⟨gl, cur, he, g7, k7, t7, l7, y7⟩
  have y7' : Only (fun k => ¬ E k) W w7 := (Only.of_below bW (Nat.le_refl _)).trans (y7.mono (fun k _ hk h => hk (.inl h)))
  have ib : ∀ a, A5 = some a -> B + 3 <= a.block /\ a.block < Y.heap.size := fun a ha => by
   have := oY.lt a.block (by rw [ha]; rfl)
   rw [sB3] at this
   exact this
  refine ⟨gl, cur, he, g7, k7, ⟨?_, ?_, ?_, ?_, o5.caps.1, o5.caps.2, t7.less ?_, y7', by omega, by omega, ?_⟩⟩
  · exact (y7.block B (by omega) (fun h => h (.inr ⟨by omega, by omega⟩))).trans z1
  · exact (y7.block (B + 2) (by omega) (fun h => h (.inr ⟨by omega, by omega⟩))).trans z3
  · exact (y7.block _ hlt5 (fun h => h (.inr ⟨by omega, hlt5⟩))).trans hz
  · exact oY.has.keep8 y7 (fun a ha _ h => h (.inr ⟨by have := ib a ha; omega, (ib a ha).2⟩))
  · rintro k (hk | ⟨hk1, hk2⟩ | hk)
    · exact .inl (.inl hk)
    · exact .inl (.inr ⟨hk1, by omega⟩)
    · exact .inr hk
  · intro a ha
    have := ib a ha
    have h2 := o5.lt a.block (by rw [ha]; rfl)
    omega)
 have CH := lH hch
 have HLT := lH hltE
 have FL := lH fl
 have HD := lH hd
 clear a A1 hltE zt0 zk0 zp0 sB sB2 sB3 hA hAb bA hch hf fl hsz hl hd
 go_enter Tryz.func43, Tryz.ntmps43
 go_upto_region 4 with (first
  | (refine wpList_load8 rfl 56 (.tmp 5) rfl ⟨B + 1, 0, none⟩ rfl _ LK.out ?_)
  | (go_at_call 81; refine CP.out.mono ?_; rintro e w5 ⟨A5, n5, c5, rfl, o5, b5⟩
     obtain ⟨hn5, fn⟩ := FIN.out w5 A5 n5 c5 o5 b5
     have hsn := hn5.symm
     subst hsn
     have FN := lH fn
     clear o5 b5 fn hn5))
 obtain ⟨w6, hw6⟩ : ∃ w6, w5.alloc (.cells #[.slice A5 sz c5] 34) = w6 := ⟨_, rfl⟩
 have b6 : Below w5.heap.size w5 w6 := by rw [<- hw6]; exact (Below.refl w5.heap.size w5).alloc (Nat.le_refl _) _
 have z6 : w6.heap[w5.heap.size]? = some (.cells #[.slice A5 sz c5] 34 (0, 0)) := by rw [<- hw6]; exact heap_alloc_new w5 _
 obtain ⟨ld6, cl6⟩ := FN.out w6 b6 z6
 have LD6 := lH ld6
 have CL6 := lH cl6
 rw [hw6]
 obtain ⟨B5, hB5⟩ : ∃ B5, w5.heap.size = B5 := ⟨_, rfl⟩
 simp only [hB5] at CL6 ⊢
 clear hw6 b6 z6 ld6 cl6 hB5 FN
 go_upto_region 10 with (first
  | (refine wpList_load8 rfl 26 (.tmp 4) rfl ⟨B, 0, none⟩ rfl _ LD6.out ?_)
  | (go_at_call 82; refine CL6.out.mono ?_; rintro e w7 ⟨gl, cur, rfl, g7, k7, s7⟩
     have m7 := cell_of_row w7 B5 0 _ _ _ s7.bs
     have CC := lH (CH.out w7 gl cur g7 k7)
     have S7 := lH s7
     have G7 := lH g7
     have K7 := lH k7
     clear g7 k7 s7)
  | (go_at_call 46; refine CC.out.mono ?_; rintro e w8 ⟨rfl, b8⟩
     have B8 := lH b8
     clear b8))
 have b9 : Below w7.heap.size w7 (w8.alloc (.cells #[.int .i64 (k : Int)] 3)) := B8.out.trans ((Below.refl w7.heap.size w8).alloc B8.out.size _)
 have z9 := heap_alloc_new w8 (.cells #[.int .i64 (k : Int)] 3)
 obtain ⟨w9, hw9⟩ : ∃ w9, w8.alloc (.cells #[.int .i64 (k : Int)] 3) = w9 := ⟨_, rfl⟩
 have hbn : w7.heap.size <= w8.heap.size := B8.out.size
 rw [hw9] at b9 z9
 rw [hw9]
 obtain ⟨bn, hbne⟩ : ∃ bn, w8.heap.size = bn := ⟨_, rfl⟩
 rw [hbne] at z9 hbn
 simp only [hbne]
 have g9 := (b9.block gl (Array.getElem?_eq_some_iff.1 G7.out).1).trans G7.out
 have L1 : Hid (∀ Y, Below w9.heap.size w9 Y -> (loadVar 3 ⟨bn, 0, none⟩).run Tryz.prog Y = .ok (.int .i64 (k : Int)) Y) := lH (fun Y hY => load_intc (cell_of_row _ _ _ _ _ _ ((hY.block bn (Array.getElem?_eq_some_iff.1 z9).1).trans z9)))
 have L2 : Hid (∀ Y, Below w9.heap.size w9 Y -> (loadVar 121 ⟨gl, k * 3, none⟩).run Tryz.prog Y = .ok (.agg (TE F k).cells.toArray) Y) := lH (fun Y hY => K7.out.load ((hY.block gl (Array.getElem?_eq_some_iff.1 g9).1).trans g9) hk)
 have B9 := lH b9
 have Z9 := lH z9
 have NB := lH hbn
 have hki : (k : Int) < 64 := by omega
 clear hw9 hbne b9 z9 hbn g9
 refine wp_region_held_drew (S := fun Y => Below w9.heap.size w9 Y) (by kernel_rfl) (Below.refl w9.heap.size w9).drew (fun hHeld => ?_)
 refine tk9 (i := 0) (h := ?_)
 try simp only [aP,aN,aS,aZ,aC]
 refine tk9 (i := 1) (hy := (yieldsIf_loadG (by rfl) 3 (.tmp 13) rfl ⟨bn, 0, none⟩ rfl (.int .i64 (k : Int)) (fun Y hY => L1.out Y hY))) (h := ?_)
 try simp only [aP,aN,aS,aZ,aC]
 refine tk9 (i := 2) (h := ?_)
 try simp only [aP,aN,aS,aZ,aC]
 refine tk9 (i := 3) (h := ?_)
 try simp only [aP,aN,aS,aZ,aC]
 refine tk9 (i := 4) (hy := (yieldsIf_loadG (by rfl) 121 (.tmp 50) rfl ⟨gl, k * 3, none⟩ rfl (.agg (TE F k).cells.toArray) (fun Y hY => L2.out Y hY))) (h := ?_)
 try simp only [aP,aN,aS,aZ,aC]
 refine rd9 (i := 5) (h := fun K hK => ?_)
 go_simp
 have hS5 : Below w9.heap.size w9 (w9.drew.alloc (.cells #[.int .i64 0, .int .i64 0, .int .i64 0] 121)) := hHeld.alloc (Nat.le_refl _) _
 refine hK _ _ hS5 (fun hH5 => ?_)
 clear hK K
 try simp only [aP,aN,aS,aZ,aC]
 refine rd9 (i := 6) (h := fun K hK => ?_)
 refine step_store_row8 (by rfl) 121 (.tmp 15) (.tmp 51) rfl w9.heap.size (TE F k).cells.toArray rfl rfl 121 _ (show (w9.alloc _).heap[w9.heap.size]? = _ from heap_alloc_new w9 _) infoEnt rfl (ent_ones _) ?_
 have b10 : Below w9.heap.size w9 (((w9.alloc (.cells #[.int .i64 0, .int .i64 0, .int .i64 0] 121)).drew).setRow w9.heap.size (TE F k).cells.toArray) := below_setRow (((Below.refl _ _).alloc (Nat.le_refl _) _).drew) (Nat.le_refl _) _
 have z10 : (((w9.alloc (.cells #[.int .i64 0, .int .i64 0, .int .i64 0] 121)).drew).setRow w9.heap.size (TE F k).cells.toArray).heap[w9.heap.size]? = some (bx (TE F k)) := setRow_heap _ _ _ _ 121 _ (show (w9.alloc _).heap[w9.heap.size]? = _ from heap_alloc_new w9 _)
 refine hK _ _ b10 (fun hHx => ?_)
 clear hK K
 try simp only [aP,aN,aS,aZ,aC]
 refine wpAnyH_done (by kernel_rfl) ?_ _
 obtain ⟨w10, hw10⟩ : ∃ w10, (((w9.alloc (.cells #[.int .i64 0, .int .i64 0, .int .i64 0] 121)).drew).setRow w9.heap.size (TE F k).cells.toArray) = w10 := ⟨_, rfl⟩
 rw [hw10] at b10 z10
 try rw [hw10]
 obtain ⟨be, hbe⟩ : ∃ be, w9.heap.size = be := ⟨_, rfl⟩
 have nbe : w7.heap.size <= be := by have := B9.out.size; omega
 rw [hbe] at z10
 simp only [hbe]
 have s7 := S7.out
 have hb5 := s7.b5
 have hgl := s7.gl
 have l10 := (Array.getElem?_eq_some_iff.1 z10).1
 have b710 : Below w7.heap.size w7 w10 := B9.out.trans ((hbe ▸ b10 : Below w9.heap.size w9 w10).mono B9.out.size)
 have n9 := (b10.block bn (Array.getElem?_eq_some_iff.1 Z9.out).1).trans Z9.out
 have ln9 := (Array.getElem?_eq_some_iff.1 n9).1
 have x10 := (b710.block B (Array.getElem?_eq_some_iff.1 s7.tx).1).trans s7.tx
 have p10 := (b710.block (B + 2) (Array.getElem?_eq_some_iff.1 s7.pl).1).trans s7.pl
 have f10 := (b710.block B5 (Array.getElem?_eq_some_iff.1 s7.bs).1).trans s7.bs
 have lp10 := (Array.getElem?_eq_some_iff.1 p10).1
 have lf10 := (Array.getElem?_eq_some_iff.1 f10).1
 have h10 := s7.has.on b710
 obtain ⟨E10, hE10⟩ : ∃ E10 : Nat -> Prop, E10 = (fun j => (E j \/ ((B <= j /\ j <= B5) \/ j = gl)) \/ (w7.heap.size <= j /\ j < w10.heap.size)) := ⟨_, rfl⟩
 have e0 : ∀ j, E j -> E10 j := fun j hj => by rw [hE10]; exact .inl (.inl hj)
 have e1 : ∀ j, B <= j -> j <= B5 -> E10 j := fun j h1 h2 => by rw [hE10]; exact .inl (.inr (.inl ⟨h1, h2⟩))
 have e2 : ∀ j, w7.heap.size <= j -> j < w10.heap.size -> E10 j := fun j h1 h2 => by rw [hE10]; exact .inr ⟨h1, h2⟩
 have T10 : T3 Z w0 w10 g gd gp gt n V r q c F C E10 := by rw [hE10]; exact s7.t.add (Only.of_below b710 (Nat.le_refl _)) (fun k hk => hk)
 have LT10 := lH (ld_txp x10)
 have CHG : Hid (Calls Tryz.prog 60 #[.pointer (some ⟨gt, 0, none⟩), .func (.func 83) #[] #[.pointer (some ⟨be, 0, none⟩), .pointer (some ⟨B, 0, none⟩), .pointer (some ⟨bn, 0, none⟩), .pointer (some ⟨B5, 0, none⟩)]] w10 fun en W' => en = .returned (.int .i64 0) /\ T3 Z w0 W' g gd gp gt n V r q2 c2 G C E10 /\ Only (fun k => ¬ E10 k) w10 W') := lH (change_ok T10 (fun w1 hw1 => by
  refine (HD.out w1 E10 be B bn B5 A5 c5 (T10.up1 hw1) ((hw1.block _ l10).trans z10) (cell_of_row _ _ 0 _ _ _ ((hw1.block B (Array.getElem?_eq_some_iff.1 x10).1).trans x10)) (cell_of_row _ _ 0 _ _ _ ((hw1.block bn ln9).trans n9)) (cell_of_row _ _ 0 _ _ _ ((hw1.block B5 lf10).trans f10)) (h10.on hw1) s7.c1 s7.c2 (fun a ha _ => e1 _ (by have := s7.ib a ha; omega) (by have := s7.ib a ha; omega))).mono ?_
  rintro en W' ⟨he, t', y'⟩
  exact ⟨he, t', (Only.of_below hw1 (Nat.le_refl _)).trans y'⟩))
 have FE : Hid (∀ w11, T3 Z w0 w11 g gd gp gt n V r q2 c2 G C E10 -> Only (fun k => ¬ E10 k) w10 w11 -> w11.heap[B + 2]? = some (.cells #[.int .i64 0, .int .i64 0, .int .i64 0] 44 (0, 0)) /\ w11.heap[bn]? = some (.cells #[.int .i64 (k : Int)] 3 (0, 0)) /\ w11.heap[be]? = some (bx (TE F k)) /\ w11.heap[B5]? = some (.cells #[.slice A5 sz c5] 34 (0, 0)) /\ ∀ cs, T3 Z w0 (w11.setRow (B + 2) cs) g gd gp gt n V r q2 c2 G C E /\ Only (fun k => ¬ E k) W (w11.setRow (B + 2) cs)) := lH (fun w11 t11 y11 => by
  refine ⟨(y11.block _ lp10 (fun h => h (e1 _ (by omega) (by omega)))).trans p10, (y11.block _ ln9 (fun h => h (e2 _ NB.out ln9))).trans n9, (y11.block _ l10 (fun h => h (e2 _ nbe l10))).trans z10, (y11.block _ lf10 (fun h => h (e1 _ (by omega) (by omega)))).trans f10, fun cs => ?_⟩
  have yR : Only (fun k => k = B + 2) w11 (w11.setRow (B + 2) cs) := Only.setRow (S := fun k => k = B + 2) (Only.refl _ w11) (g := B + 2) rfl cs
  refine ⟨t11.add (E' := E) (yR.mono (fun k _ hk => .inl (by rw [hk]; exact e1 _ (by omega) (by omega)))) (fun k hk => .inl (e0 k hk)), ?_⟩
  exact ((s7.y.trans (Only.of_below b710 (Nat.le_refl _))).trans (y11.mono (fun k _ hk he => hk (e0 k he)))).trans (yR.mono (fun k _ hk he => by have := HLT.out k he; omega)))
 obtain ⟨x, hx⟩ : ∃ x, TE F k = x := ⟨_, rfl⟩
 rw [hx] at FE ⊢
 obtain ⟨xs, xu, xv⟩ := x
 have HX := lH hx
 clear hw10 hbe b10 z10 nbe s7 hb5 hgl l10 b710 n9 ln9 x10 p10 f10 lp10 lf10 h10 e0 e1 e2 T10 hE10 hx S7 G7 K7 B8 B9 Z9 NB L1 L2 HD CH CC
 go_wp2_with (first
  | (refine wpList_load8 rfl 26 (.tmp 4) rfl ⟨B, 0, none⟩ rfl _ LT10.out ?_)
  | (go_at_call 60; refine CHG.out.mono ?_; rintro e w11 ⟨rfl, t11, y11⟩
     obtain ⟨p11, n11, x11, f11, u11⟩ := FE.out w11 t11 y11
     have P11 := lH p11
     have U11 := lH u11
     have m1 := cell_of_row w11 bn 0 _ _ _ n11
     have m2 := cell_of_row w11 be 1 _ _ _ x11
     have m3 := cell_of_row w11 B5 0 _ _ _ f11
     simp [Ent.cells] at m2
     skip
     clear t11 y11 p11 n11 x11 f11 u11)
  | (refine wpList_store_row8 rfl 44 (.tmp 8) (.tmp 64) rfl (B + 2) (plC (k : Int) (xu : Int) (sz : Int)).toArray rfl rfl 44 _ P11.out infoPlace rfl (pl_ones _ _ _) ?_))
 refine bodyPost_ret (v := .tuple #[.agg (plC (k : Int) (xu : Int) (sz : Int)).toArray, .int .i64 0]) ?_ (by rfl) ⟨by rw [HX.out], U11.out _⟩
 exact results_pl (p := 8) (u := 9) rfl _ _ (B + 2) (k : Int) (xu : Int) (sz : Int) (by rfl) (setRow_heap _ _ _ _ 44 _ P11.out)
end
section
variable {Z : DK} {w0 W W' : World} {g gd gp gt n V r q c q2 c2 : Nat} {F G C : Nat -> List UInt8} {E E' : Nat -> Prop}
theorem adda_x (K : FK) (a : T3 Z w0 W g gd gp gt n V r q c F C E) (hV : V <= 1073000000) (key : List UInt8) (hkey : key.length = 32) (A : Option Addr) (N cA : Nat) (b : List UInt8) (hA : HasB W W.heap.size A N b) (hcA : N <= cA) (hcB : cA <= maxLen) (hN : N <= 1073741824) (hl : b.length <= 4200) (sz : Nat) (hsz : sz = b.length + 46) (k : Nat) (hk : k < 64)
 (hch : ∀ W gl cur, W.heap[gl]? = some (.cells cur 204 (0, 0)) -> TabC F 64 cur -> Calls Tryz.prog 46 #[.pointer (some ⟨gl, 0, none⟩), .int .i64 (sz : Int)] W fun e w' => e = .returned (.tuple #[.int .i64 (k : Int), .bool true]) /\ Below W.heap.size W w')
 (y : Int) (hy : y ≠ 0) (hd : ∀ W E b0 b1 b2 b3 A' c', T3 Z w0 W g gd gp gt n V r q c F C E -> W.heap[b0]? = some (bx (TE F k)) -> W.cell? ⟨b1, 0, none⟩ = some (.pointer (some ⟨gt, 0, none⟩)) -> W.cell? ⟨b2, 0, none⟩ = some (.int .i64 (k : Int)) -> W.cell? ⟨b3, 0, none⟩ = some (.slice A' sz c') -> HasB W W.heap.size A' sz (frmL key b) -> sz <= c' -> c' <= maxLen -> (∀ a, A' = some a -> 0 < sz -> E a.block) -> Calls Tryz.prog 83 #[.pointer (some ⟨b0, 0, none⟩), .pointer (some ⟨b1, 0, none⟩), .pointer (some ⟨b2, 0, none⟩), .pointer (some ⟨b3, 0, none⟩)] W fun en W' => en = .returned (.int .i64 y) /\ W'.heap[gt]? = W.heap[gt]? /\ T3 Z w0 W' g gd gp gt n V r q2 c2 G C E /\ Only (fun k => ¬ E k) W W') :
 Calls Tryz.prog 43 #[.pointer (some ⟨gt, 0, none⟩), .agg (cellsB key).toArray, .slice A N cA, .func (.func 46) #[] #[]] W (RetPl Z w0 W g gd gp gt n V r q2 c2 G C E 0 0 0 y) := by
 have A1 := ((a.alloc (.cells #[.pointer (some ⟨gt, 0, none⟩)] 26)).alloc (.cells (cellsB key).toArray 56)).alloc (.cells #[.int .i64 0, .int .i64 0, .int .i64 0] 44)
 have hltE : ∀ k, E k -> k < W.heap.size := fun k hk => (a.lt k hk).2
 obtain ⟨B, hB⟩ : ∃ B, W.heap.size = B := ⟨_, rfl⟩
 have sB : (W.alloc (.cells #[.pointer (some ⟨gt, 0, none⟩)] 26)).heap.size = B + 1 := by simp [hB]
 have sB2 : ((W.alloc (.cells #[.pointer (some ⟨gt, 0, none⟩)] 26)).alloc (.cells (cellsB key).toArray 56)).heap.size = B + 2 := by simp [hB]
 have sB3 : (((W.alloc (.cells #[.pointer (some ⟨gt, 0, none⟩)] 26)).alloc (.cells (cellsB key).toArray 56)).alloc (.cells #[.int .i64 0, .int .i64 0, .int .i64 0] 44)).heap.size = B + 3 := by simp [hB]
 rw [hB, sB, sB2] at A1
 have bA : Below W.heap.size W (((W.alloc (.cells #[.pointer (some ⟨gt, 0, none⟩)] 26)).alloc (.cells (cellsB key).toArray 56)).alloc (.cells #[.int .i64 0, .int .i64 0, .int .i64 0] 44)) := (((Below.refl W.heap.size W).alloc (Nat.le_refl _) _).alloc (by simp) _).alloc (by simp; omega) _
 have zt0 : (((W.alloc (.cells #[.pointer (some ⟨gt, 0, none⟩)] 26)).alloc (.cells (cellsB key).toArray 56)).alloc (.cells #[.int .i64 0, .int .i64 0, .int .i64 0] 44)).heap[B]? = some (.cells #[.pointer (some ⟨gt, 0, none⟩)] 26 (0, 0)) := by
  have e0 := heap_alloc_new W (.cells #[.pointer (some ⟨gt, 0, none⟩)] 26)
  rw [hB] at e0
  exact (Below.heap_alloc _ _ B (by rw [sB2]; omega)).trans ((Below.heap_alloc _ _ B (by rw [sB]; omega)).trans e0)
 have zk0 : Bw (((W.alloc (.cells #[.pointer (some ⟨gt, 0, none⟩)] 26)).alloc (.cells (cellsB key).toArray 56)).alloc (.cells #[.int .i64 0, .int .i64 0, .int .i64 0] 44)) (B + 1) 56 key := by
  have e0 := heap_alloc_new (W.alloc (.cells #[.pointer (some ⟨gt, 0, none⟩)] 26)) (.cells (cellsB key).toArray 56)
  rw [sB] at e0
  exact (Below.heap_alloc _ _ (B + 1) (by rw [sB2]; omega)).trans e0
 have zp0 : (((W.alloc (.cells #[.pointer (some ⟨gt, 0, none⟩)] 26)).alloc (.cells (cellsB key).toArray 56)).alloc (.cells #[.int .i64 0, .int .i64 0, .int .i64 0] 44)).heap[B + 2]? = some (.cells #[.int .i64 0, .int .i64 0, .int .i64 0] 44 (0, 0)) := by
  have e0 := heap_alloc_new ((W.alloc (.cells #[.pointer (some ⟨gt, 0, none⟩)] 26)).alloc (.cells (cellsB key).toArray 56)) (.cells #[.int .i64 0, .int .i64 0, .int .i64 0] 44)
  rw [sB2] at e0
  exact e0
 have LK := lH (zk0.load hkey)
 have hAb : HasB (((W.alloc (.cells #[.pointer (some ⟨gt, 0, none⟩)] 26)).alloc (.cells (cellsB key).toArray 56)).alloc (.cells #[.int .i64 0, .int .i64 0, .int .i64 0] 44)) (((W.alloc (.cells #[.pointer (some ⟨gt, 0, none⟩)] 26)).alloc (.cells (cellsB key).toArray 56)).alloc (.cells #[.int .i64 0, .int .i64 0, .int .i64 0] 44)).heap.size A N b := hA.on bA
 have CP := lH (K.put_any (((W.alloc (.cells #[.pointer (some ⟨gt, 0, none⟩)] 26)).alloc (.cells (cellsB key).toArray 56)).alloc (.cells #[.int .i64 0, .int .i64 0, .int .i64 0] 44)) A N cA key b hAb hcA hcB hN hkey)
 obtain ⟨f, hf⟩ : ∃ f, frmL key b = f := ⟨_, rfl⟩
 have fl : f.length = sz := by rw [<- hf, frmL_len _ _ hkey, hsz]; omega
 rw [fputL_ok hl, fputE_ok hl, hf] at CP
 rw [hf] at hd
 have FIN : Hid (∀ w5 A5 n5 c5, OwnB w5 (((W.alloc (.cells #[.pointer (some ⟨gt, 0, none⟩)] 26)).alloc (.cells (cellsB key).toArray 56)).alloc (.cells #[.int .i64 0, .int .i64 0, .int .i64 0] 44)).heap.size (.slice A5 n5 c5) f -> Below (((W.alloc (.cells #[.pointer (some ⟨gt, 0, none⟩)] 26)).alloc (.cells (cellsB key).toArray 56)).alloc (.cells #[.int .i64 0, .int .i64 0, .int .i64 0] 44)).heap.size (((W.alloc (.cells #[.pointer (some ⟨gt, 0, none⟩)] 26)).alloc (.cells (cellsB key).toArray 56)).alloc (.cells #[.int .i64 0, .int .i64 0, .int .i64 0] 44)) w5 -> n5 = sz /\ ∀ Y, Below w5.heap.size w5 Y -> Y.heap[w5.heap.size]? = some (.cells #[.slice A5 sz c5] 34 (0, 0)) ->
  (loadVar 26 ⟨B, 0, none⟩).run Tryz.prog Y = .ok (.pointer (some ⟨gt, 0, none⟩)) Y /\
  Calls Tryz.prog 82 #[.pointer (some ⟨gt, 0, none⟩)] Y fun en w7 => ∃ gl cur, en = .returned (.tuple #[.pointer (some ⟨gl, 0, none⟩), .int .i64 0]) /\ w7.heap[gl]? = some (.cells cur 204 (0, 0)) /\ TabC F 64 cur /\ AddS Z w0 W w7 g gd gp gt n V r q c F C E B w5.heap.size gl A5 sz c5 f) := lH (fun w5 A5 n5 c5 o5 b5 => by
  have hn : n5 = sz := by rw [o5.len, fl]
  refine ⟨hn, fun Y hY hz => ?_⟩
  subst hn
  have bW := bA.trans ((b5.trans (hY.mono b5.size)).mono bA.size)
  have b35 := b5.trans (hY.mono b5.size)
  have z1 := (b35.block B (by rw [sB3]; omega)).trans zt0
  have z3 := (b35.block (B + 2) (by rw [sB3]; omega)).trans zp0
  have hlt5 := (Array.getElem?_eq_some_iff.1 hz).1
  have hs5 : B + 3 <= w5.heap.size := by have := b5.size; omega
  have t6 := a.add (E' := fun k => E k \/ (B <= k /\ k < Y.heap.size)) (Only.of_below bW (Nat.le_refl _)) (fun k hk => hk.imp id (fun h => by rw [hB]; exact h))
  have oY := o5.below hY
  refine ⟨ld_txp z1, (ltab_any t6 hV).mono ?_⟩
  rintro en w7 ⟨gl, cur, he, g7, k7, t7, l7, y7⟩
  have y7' : Only (fun k => ¬ E k) W w7 := (Only.of_below bW (Nat.le_refl _)).trans (y7.mono (fun k _ hk h => hk (.inl h)))
  have ib : ∀ a, A5 = some a -> B + 3 <= a.block /\ a.block < Y.heap.size := fun a ha => by
   have := oY.lt a.block (by rw [ha]; rfl)
   rw [sB3] at this
   exact this
  refine ⟨gl, cur, he, g7, k7, ⟨?_, ?_, ?_, ?_, o5.caps.1, o5.caps.2, t7.less ?_, y7', by omega, by omega, ?_⟩⟩
  · exact (y7.block B (by omega) (fun h => h (.inr ⟨by omega, by omega⟩))).trans z1
  · exact (y7.block (B + 2) (by omega) (fun h => h (.inr ⟨by omega, by omega⟩))).trans z3
  · exact (y7.block _ hlt5 (fun h => h (.inr ⟨by omega, hlt5⟩))).trans hz
  · exact oY.has.keep8 y7 (fun a ha _ h => h (.inr ⟨by have := ib a ha; omega, (ib a ha).2⟩))
  · rintro k (hk | ⟨hk1, hk2⟩ | hk)
    · exact .inl (.inl hk)
    · exact .inl (.inr ⟨hk1, by omega⟩)
    · exact .inr hk
  · intro a ha
    have := ib a ha
    have h2 := o5.lt a.block (by rw [ha]; rfl)
    omega)
 have CH := lH hch
 have HLT := lH hltE
 have FL := lH fl
 have HD := lH hd
 clear a A1 hltE zt0 zk0 zp0 sB sB2 sB3 hA hAb bA hch hf fl hsz hl hd
 go_enter Tryz.func43, Tryz.ntmps43
 go_upto_region 4 with (first
  | (refine wpList_load8 rfl 56 (.tmp 5) rfl ⟨B + 1, 0, none⟩ rfl _ LK.out ?_)
  | (go_at_call 81; refine CP.out.mono ?_; rintro e w5 ⟨A5, n5, c5, rfl, o5, b5⟩
     obtain ⟨hn5, fn⟩ := FIN.out w5 A5 n5 c5 o5 b5
     have hsn := hn5.symm
     subst hsn
     have FN := lH fn
     clear o5 b5 fn hn5))
 obtain ⟨w6, hw6⟩ : ∃ w6, w5.alloc (.cells #[.slice A5 sz c5] 34) = w6 := ⟨_, rfl⟩
 have b6 : Below w5.heap.size w5 w6 := by rw [<- hw6]; exact (Below.refl w5.heap.size w5).alloc (Nat.le_refl _) _
 have z6 : w6.heap[w5.heap.size]? = some (.cells #[.slice A5 sz c5] 34 (0, 0)) := by rw [<- hw6]; exact heap_alloc_new w5 _
 obtain ⟨ld6, cl6⟩ := FN.out w6 b6 z6
 have LD6 := lH ld6
 have CL6 := lH cl6
 rw [hw6]
 obtain ⟨B5, hB5⟩ : ∃ B5, w5.heap.size = B5 := ⟨_, rfl⟩
 simp only [hB5] at CL6 ⊢
 clear hw6 b6 z6 ld6 cl6 hB5 FN
 go_upto_region 10 with (first
  | (refine wpList_load8 rfl 26 (.tmp 4) rfl ⟨B, 0, none⟩ rfl _ LD6.out ?_)
  | (go_at_call 82; refine CL6.out.mono ?_; rintro e w7 ⟨gl, cur, rfl, g7, k7, s7⟩
     have m7 := cell_of_row w7 B5 0 _ _ _ s7.bs
     have CC := lH (CH.out w7 gl cur g7 k7)
     have S7 := lH s7
     have G7 := lH g7
     have K7 := lH k7
     clear g7 k7 s7)
  | (go_at_call 46; refine CC.out.mono ?_; rintro e w8 ⟨rfl, b8⟩
     have B8 := lH b8
     clear b8))
 have b9 : Below w7.heap.size w7 (w8.alloc (.cells #[.int .i64 (k : Int)] 3)) := B8.out.trans ((Below.refl w7.heap.size w8).alloc B8.out.size _)
 have z9 := heap_alloc_new w8 (.cells #[.int .i64 (k : Int)] 3)
 obtain ⟨w9, hw9⟩ : ∃ w9, w8.alloc (.cells #[.int .i64 (k : Int)] 3) = w9 := ⟨_, rfl⟩
 have hbn : w7.heap.size <= w8.heap.size := B8.out.size
 rw [hw9] at b9 z9
 rw [hw9]
 obtain ⟨bn, hbne⟩ : ∃ bn, w8.heap.size = bn := ⟨_, rfl⟩
 rw [hbne] at z9 hbn
 simp only [hbne]
 have g9 := (b9.block gl (Array.getElem?_eq_some_iff.1 G7.out).1).trans G7.out
 have L1 : Hid (∀ Y, Below w9.heap.size w9 Y -> (loadVar 3 ⟨bn, 0, none⟩).run Tryz.prog Y = .ok (.int .i64 (k : Int)) Y) := lH (fun Y hY => load_intc (cell_of_row _ _ _ _ _ _ ((hY.block bn (Array.getElem?_eq_some_iff.1 z9).1).trans z9)))
 have L2 : Hid (∀ Y, Below w9.heap.size w9 Y -> (loadVar 121 ⟨gl, k * 3, none⟩).run Tryz.prog Y = .ok (.agg (TE F k).cells.toArray) Y) := lH (fun Y hY => K7.out.load ((hY.block gl (Array.getElem?_eq_some_iff.1 g9).1).trans g9) hk)
 have B9 := lH b9
 have Z9 := lH z9
 have NB := lH hbn
 have hki : (k : Int) < 64 := by omega
 clear hw9 hbne b9 z9 hbn g9
 refine wp_region_held_drew (S := fun Y => Below w9.heap.size w9 Y) (by kernel_rfl) (Below.refl w9.heap.size w9).drew (fun hHeld => ?_)
 refine tk9 (i := 0) (h := ?_)
 try simp only [aP,aN,aS,aZ,aC]
 refine tk9 (i := 1) (hy := (yieldsIf_loadG (by rfl) 3 (.tmp 13) rfl ⟨bn, 0, none⟩ rfl (.int .i64 (k : Int)) (fun Y hY => L1.out Y hY))) (h := ?_)
 try simp only [aP,aN,aS,aZ,aC]
 refine tk9 (i := 2) (h := ?_)
 try simp only [aP,aN,aS,aZ,aC]
 refine tk9 (i := 3) (h := ?_)
 try simp only [aP,aN,aS,aZ,aC]
 refine tk9 (i := 4) (hy := (yieldsIf_loadG (by rfl) 121 (.tmp 50) rfl ⟨gl, k * 3, none⟩ rfl (.agg (TE F k).cells.toArray) (fun Y hY => L2.out Y hY))) (h := ?_)
 try simp only [aP,aN,aS,aZ,aC]
 refine rd9 (i := 5) (h := fun K hK => ?_)
 go_simp
 have hS5 : Below w9.heap.size w9 (w9.drew.alloc (.cells #[.int .i64 0, .int .i64 0, .int .i64 0] 121)) := hHeld.alloc (Nat.le_refl _) _
 refine hK _ _ hS5 (fun hH5 => ?_)
 clear hK K
 try simp only [aP,aN,aS,aZ,aC]
 refine rd9 (i := 6) (h := fun K hK => ?_)
 refine step_store_row8 (by rfl) 121 (.tmp 15) (.tmp 51) rfl w9.heap.size (TE F k).cells.toArray rfl rfl 121 _ (show (w9.alloc _).heap[w9.heap.size]? = _ from heap_alloc_new w9 _) infoEnt rfl (ent_ones _) ?_
 have b10 : Below w9.heap.size w9 (((w9.alloc (.cells #[.int .i64 0, .int .i64 0, .int .i64 0] 121)).drew).setRow w9.heap.size (TE F k).cells.toArray) := below_setRow (((Below.refl _ _).alloc (Nat.le_refl _) _).drew) (Nat.le_refl _) _
 have z10 : (((w9.alloc (.cells #[.int .i64 0, .int .i64 0, .int .i64 0] 121)).drew).setRow w9.heap.size (TE F k).cells.toArray).heap[w9.heap.size]? = some (bx (TE F k)) := setRow_heap _ _ _ _ 121 _ (show (w9.alloc _).heap[w9.heap.size]? = _ from heap_alloc_new w9 _)
 refine hK _ _ b10 (fun hHx => ?_)
 clear hK K
 try simp only [aP,aN,aS,aZ,aC]
 refine wpAnyH_done (by kernel_rfl) ?_ _
 obtain ⟨w10, hw10⟩ : ∃ w10, (((w9.alloc (.cells #[.int .i64 0, .int .i64 0, .int .i64 0] 121)).drew).setRow w9.heap.size (TE F k).cells.toArray) = w10 := ⟨_, rfl⟩
 rw [hw10] at b10 z10
 try rw [hw10]
 obtain ⟨be, hbe⟩ : ∃ be, w9.heap.size = be := ⟨_, rfl⟩
 have nbe : w7.heap.size <= be := by have := B9.out.size; omega
 rw [hbe] at z10
 simp only [hbe]
 have s7 := S7.out
 have hb5 := s7.b5
 have hgl := s7.gl
 have l10 := (Array.getElem?_eq_some_iff.1 z10).1
 have b710 : Below w7.heap.size w7 w10 := B9.out.trans ((hbe ▸ b10 : Below w9.heap.size w9 w10).mono B9.out.size)
 have n9 := (b10.block bn (Array.getElem?_eq_some_iff.1 Z9.out).1).trans Z9.out
 have ln9 := (Array.getElem?_eq_some_iff.1 n9).1
 have x10 := (b710.block B (Array.getElem?_eq_some_iff.1 s7.tx).1).trans s7.tx
 have p10 := (b710.block (B + 2) (Array.getElem?_eq_some_iff.1 s7.pl).1).trans s7.pl
 have f10 := (b710.block B5 (Array.getElem?_eq_some_iff.1 s7.bs).1).trans s7.bs
 have lp10 := (Array.getElem?_eq_some_iff.1 p10).1
 have lf10 := (Array.getElem?_eq_some_iff.1 f10).1
 have h10 := s7.has.on b710
 obtain ⟨E10, hE10⟩ : ∃ E10 : Nat -> Prop, E10 = (fun j => (E j \/ ((B <= j /\ j <= B5) \/ j = gl)) \/ (w7.heap.size <= j /\ j < w10.heap.size)) := ⟨_, rfl⟩
 have e0 : ∀ j, E j -> E10 j := fun j hj => by rw [hE10]; exact .inl (.inl hj)
 have e1 : ∀ j, B <= j -> j <= B5 -> E10 j := fun j h1 h2 => by rw [hE10]; exact .inl (.inr (.inl ⟨h1, h2⟩))
 have e2 : ∀ j, w7.heap.size <= j -> j < w10.heap.size -> E10 j := fun j h1 h2 => by rw [hE10]; exact .inr ⟨h1, h2⟩
 have T10 : T3 Z w0 w10 g gd gp gt n V r q c F C E10 := by rw [hE10]; exact s7.t.add (Only.of_below b710 (Nat.le_refl _)) (fun k hk => hk)
 have LT10 := lH (ld_txp x10)
 have CHG : Hid (Calls Tryz.prog 60 #[.pointer (some ⟨gt, 0, none⟩), .func (.func 83) #[] #[.pointer (some ⟨be, 0, none⟩), .pointer (some ⟨B, 0, none⟩), .pointer (some ⟨bn, 0, none⟩), .pointer (some ⟨B5, 0, none⟩)]] w10 fun en W' => en = .returned (.int .i64 y) /\ T3 Z w0 W' g gd gp gt n V r q2 c2 G C E10 /\ Only (fun k => ¬ E10 k) w10 W') := lH (change_err hy T10 (fun w1 Bc hw1 hBc hBl => by
  have T1 : T3 Z w0 w1 g gd gp gt n V r q c F C (fun j => E10 j \/ j = Bc) := T10.add (Only.of_below hw1 (Nat.le_refl _)) (fun k hk => hk.imp id (fun e => ⟨by omega, by omega⟩))
  refine (HD.out w1 (fun j => E10 j \/ j = Bc) be B bn B5 A5 c5 T1 ((hw1.block _ l10).trans z10) (cell_of_row _ _ 0 _ _ _ ((hw1.block B (Array.getElem?_eq_some_iff.1 x10).1).trans x10)) (cell_of_row _ _ 0 _ _ _ ((hw1.block bn ln9).trans n9)) (cell_of_row _ _ 0 _ _ _ ((hw1.block B5 lf10).trans f10)) (h10.on hw1) s7.c1 s7.c2 (fun a ha _ => .inl (e1 _ (by have := s7.ib a ha; omega) (by have := s7.ib a ha; omega)))).mono ?_
  rintro en W' ⟨he, hg, t', y'⟩
  exact ⟨he, hg, y'.block Bc hBl (fun h => h (.inr rfl)), t'.less (fun k hk => .inl hk), (Only.of_below hw1 (Nat.le_refl _)).trans (y'.mono (fun k _ hk he => hk (.inl he)))⟩))
 have FE : Hid (∀ w11, T3 Z w0 w11 g gd gp gt n V r q2 c2 G C E10 -> Only (fun k => ¬ E10 k) w10 w11 -> w11.heap[B + 2]? = some (.cells #[.int .i64 0, .int .i64 0, .int .i64 0] 44 (0, 0)) /\ w11.heap[bn]? = some (.cells #[.int .i64 (k : Int)] 3 (0, 0)) /\ w11.heap[be]? = some (bx (TE F k)) /\ w11.heap[B5]? = some (.cells #[.slice A5 sz c5] 34 (0, 0)) /\ ∀ cs, T3 Z w0 (w11.setRow (B + 2) cs) g gd gp gt n V r q2 c2 G C E /\ Only (fun k => ¬ E k) W (w11.setRow (B + 2) cs)) := lH (fun w11 t11 y11 => by
  refine ⟨(y11.block _ lp10 (fun h => h (e1 _ (by omega) (by omega)))).trans p10, (y11.block _ ln9 (fun h => h (e2 _ NB.out ln9))).trans n9, (y11.block _ l10 (fun h => h (e2 _ nbe l10))).trans z10, (y11.block _ lf10 (fun h => h (e1 _ (by omega) (by omega)))).trans f10, fun cs => ?_⟩
  have yR : Only (fun k => k = B + 2) w11 (w11.setRow (B + 2) cs) := Only.setRow (S := fun k => k = B + 2) (Only.refl _ w11) (g := B + 2) rfl cs
  refine ⟨t11.add (E' := E) (yR.mono (fun k _ hk => .inl (by rw [hk]; exact e1 _ (by omega) (by omega)))) (fun k hk => .inl (e0 k hk)), ?_⟩
  exact ((s7.y.trans (Only.of_below b710 (Nat.le_refl _))).trans (y11.mono (fun k _ hk he => hk (e0 k he)))).trans (yR.mono (fun k _ hk he => by have := HLT.out k he; omega)))
 have HY : Hid ((y != 0) = true) := lH (by simpa using hy)
 obtain ⟨x, hx⟩ : ∃ x, TE F k = x := ⟨_, rfl⟩
 rw [hx] at FE ⊢
 obtain ⟨xs, xu, xv⟩ := x
 have HX := lH hx
 clear hw10 hbe b10 z10 nbe s7 hb5 hgl l10 b710 n9 ln9 x10 p10 f10 lp10 lf10 h10 e0 e1 e2 T10 hE10 hx S7 G7 K7 B8 B9 Z9 NB L1 L2 HD CH CC
 go_wp2_with (first
  | (refine wpList_load8 rfl 26 (.tmp 4) rfl ⟨B, 0, none⟩ rfl _ LT10.out ?_)
  | (go_at_call 60; refine CHG.out.mono ?_; rintro e w11 ⟨rfl, t11, y11⟩
     obtain ⟨p11, n11, x11, f11, u11⟩ := FE.out w11 t11 y11
     have P11 := lH p11
     have U11 := lH u11
     have m1 := cell_of_row w11 bn 0 _ _ _ n11
     have m2 := cell_of_row w11 be 1 _ _ _ x11
     have m3 := cell_of_row w11 B5 0 _ _ _ f11
     simp [Ent.cells] at m2
     have hyb := HY.out
     clear t11 y11 p11 n11 x11 f11 u11)
  | (refine wpList_store_row8 rfl 44 (.tmp 8) (.tmp 57) rfl (B + 2) (plC 0 0 0).toArray rfl rfl 44 _ P11.out infoPlace rfl (pl_ones _ _ _) ?_))
 refine bodyPost_ret (v := .tuple #[.agg (plC 0 0 0).toArray, .int .i64 y]) ?_ (by rfl) ⟨rfl, U11.out _⟩
 exact results_pl (p := 8) (u := 9) rfl _ _ (B + 2) 0 0 0 (by rfl) (setRow_heap _ _ _ _ 44 _ P11.out)
end
end Go.Proofs.YthoebjekkfhhgaaGreat
