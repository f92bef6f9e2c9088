/-
  Own work. Space: load, store, Take, Free, Taken, Left over a transaction. Space: Take, Free, Taken, Left over a transaction; what is taken behind them; a transaction that is over. Space: Format; what the laws of layer 8 begin with.
-/
import Derived.Test.YtjpicaofgiagdaaGreatSb
import Derived.Test.YtjpicaofgiagdaaGreatT8
import Derived.Test.YtjpicaofgiagdaaGreatT9
import Derived.Test.YtjpicaofgiagdaaGreatT7
import Derived.Test.YtjpicaofgiagdaaGreatG7
namespace Go.Proofs.YtjpicaofgiagdaaGreat
open Go.RowKit Go.Maps
set_option linter.unusedVariables false
set_option linter.unusedSimpArgs false

/-! ### A bitmap built -/
theorem infoBits : (Tryz.prog.info? 160).map (·.size) = some 512 := by kernel_rfl
theorem HasB.load_bits {w : World} {B g o n : Nat} {l : List UInt8} (h : HasB w B (some ⟨g, o, none⟩) n l) (hl : l.length = 512) : (loadVar 160 ⟨g, o, none⟩).run Tryz.prog w = .ok (.agg (cellsB l).toArray) w := by
  have hn := h.len
  obtain ⟨g', o', e, _, hc⟩ := h.2 (by omega)
  simp only [Option.some.injEq, Addr.mk.injEq, and_true] at e
  obtain ⟨rfl, rfl⟩ := e
  have hc' : (loadCells ⟨g, o, none⟩ (cellsB l).length).run Tryz.prog w = .ok (cellsB l).toArray w :=
    run_loadCells_list (P := Tryz.prog) w ⟨g, o, none⟩ (cellsB l) (fun j v hv => by
      obtain ⟨b, hb, rfl⟩ := cellsB_at hv
      rw [Addr.add_lit]
      exact hc j b hb)
  rw [cellsB_length, hl] at hc'
  have hi := infoBits
  cases hq : Tryz.prog.info? 160 with
  | none => simp [hq] at hi
  | some i =>
    have hs : i.size = 512 := by simpa [hq] using hi
    have hagg : (isAgg 160).run Tryz.prog w = .ok true w := by
      unfold isAgg
      rw [Sem.run_bind, run_underlying Tryz.underlying160 w]
      rfl
    simp [loadVar, Sem.run_bind, hagg, sizeOf, typeInfo, hq, hs, hc']
theorem built_bm0 (parts : List (Nat × Value)) : Tryz.prog.built 162 parts = Instr.fill (#[(0, 512), (512, 1)][·]?) (cellsB zsec ++ [Value.int .i64 0]).toArray parts := by kernel_rfl
theorem built_bm (b : List UInt8) (hb : b.length = 512) (h : Int) : Tryz.prog.built 162 [(0, .agg (cellsB b).toArray), (1, .int .i64 h)] = some (cellsB b ++ [Value.int .i64 h]).toArray := by
  have l0 : (cellsB zsec).length = 512 := by rw [cellsB_length]; exact zsec_len
  have lb : (cellsB b).length = 512 := by rw [cellsB_length]; exact hb
  rw [built_bm0, fill_step _ _ 0 _ _ 0 512 rfl (by show (cellsB b).toArray.size = 512; rw [cellsB_size]; exact hb) (by simp [l0])]
  have e1 : ((cellsB zsec ++ [Value.int .i64 0]).toArray.toList.take 0 ++ (Value.agg (cellsB b).toArray).cells.toList ++ (cellsB zsec ++ [Value.int .i64 0]).toArray.toList.drop (0 + 512)) = cellsB b ++ [Value.int .i64 0] := by
    show [] ++ cellsB b ++ (cellsB zsec ++ [Value.int .i64 0]).drop 512 = _
    rw [List.nil_append, List.drop_left' l0]
  rw [e1, fill_step _ _ 1 _ _ 512 1 rfl rfl (by simp [lb])]
  have e2 : ((cellsB b ++ [Value.int .i64 0]).toArray.toList.take 512 ++ (Value.int .i64 h).cells.toList ++ (cellsB b ++ [Value.int .i64 0]).toArray.toList.drop (512 + 1)) = cellsB b ++ [Value.int .i64 h] := by
    show (cellsB b ++ [Value.int .i64 0]).take 512 ++ [Value.int .i64 h] ++ (cellsB b ++ [Value.int .i64 0]).drop (512 + 1) = _
    rw [List.take_left' lb, List.drop_of_length_le (by simp [lb]), List.append_nil]
  rw [e2]
  rfl
theorem yieldsIf_build2 {P : Program} {ops : Array Oper} {o : Oper} {a : Act} {S : World → Prop} (hw : Region.wanted o (yielded ops a.tmps) = true) (t : TypeId) (i j : Nat) (x y : Operand) (ho : o.op = .build t #[(i, x), (j, y)])
    (u v : Value) (hx : a.eval x = u) (hy : a.eval y = v) (cells : Array Value) (hf : P.built t [(i, u), (j, v)] = some cells) : YieldsIf P ops S o (.agg cells) a := by
  refine Or.inl ⟨hw, fun w hS => ?_⟩
  unfold execOp
  simp only [ho, Sem.run_bind, List.map_toArray, List.map_cons, List.map_nil, hx, hy, run_build w t _ _ hf, Result.andThen_ok, Sem.run_pure]
theorem yieldsIf_arr2 {P : Program} {ops : Array Oper} {o : Oper} {a : Act} {S : World → Prop} (hw : Region.wanted o (yielded ops a.tmps) = true) (arr el : TypeId) (n : Nat) (x : Operand) (ho : o.op = .sliceToArrayPointer arr x)
    (hu : P.underlying arr = some (.array n el)) (A : Option Addr) (len cap : Nat) (hx : a.eval x = .slice A len cap) (hn : n ≤ len) : YieldsIf P ops S o (.pointer A) a := by
  refine Or.inl ⟨hw, fun w hS => ?_⟩
  have hr : (Instr.arrayAt arr (.slice A len cap)).run P w = .ok (.pointer A) w := by
    unfold Instr.arrayAt
    simp [run_underlying hu, Nat.not_lt.2 hn]
  unfold execOp
  simp only [ho, hx, Sem.run_bind, Sem.run_pure, Result.andThen_ok, hr]

/-! ### A space: a transaction of a journal that is up, its bitmap as the transaction sees it -/
def SpU (X : (Nat → List UInt8) → List ByteArray → Prop) (Z : DK) (w0 W : World) (g gd gp gt n V r q : Nat) (b : List UInt8) (E : Nat → Prop) : Prop :=
  ∃ (p : Pt) (j : JM) (T u : Nat) (H : Nat → List UInt8) (ws : List ByteArray) (M : Nat → Prop), UpB Z w0 W g gd gp n p j (fun k => (k = gt ∨ M k) ∨ E k) ∧ SJ p n V j T u r H ∧ TO W gt g (T - 1) (n - 2 - r) q ws M ∧
    txH H ws 1 = b ∧ b.length = 512 ∧ ((ws.getD 1 emp).size ≠ 0 ∨ (frK ws (n - 2 - r)).length < 40) ∧ (∀ k, E k → k ≠ gt ∧ ¬ M k) ∧ X H ws
section
variable {X : (Nat → List UInt8) → List ByteArray → Prop} {Z : DK} {w0 W W' : World} {g gd gp gt n V r q : Nat} {b : List UInt8} {E : Nat → Prop}
theorem SpU.up (a : SpU X Z w0 W g gd gp gt n V r q b E) : Below w0.heap.size w0 W := by
  obtain ⟨p, j, T, u, H, ws, M, U, _⟩ := a
  exact U.up.bel
theorem SpU.sz (a : SpU X Z w0 W g gd gp gt n V r q b E) (hV : V ≤ 1073000000) : 8 ≤ n - 2 - r ∧ n - 2 - r ≤ 4096 ∧ b.length = 512 := by
  obtain ⟨p, j, T, u, H, ws, M, U, s, t, hb, hl, _⟩ := a
  obtain ⟨b1, b2, b3, b4, b5, b6, b7, b8, b9, b10, b11, b12⟩ := s.homes
  exact ⟨by omega, t.wl.2.2, hl⟩
theorem SpU.lt (a : SpU X Z w0 W g gd gp gt n V r q b E) : ∀ k, E k → w0.heap.size ≤ k ∧ k < W.heap.size := by
  obtain ⟨p, j, T, u, H, ws, M, U, _⟩ := a
  exact fun k hk => U.lt k (.inr hk)
theorem SpU.below (a : SpU X Z w0 W g gd gp gt n V r q b E) (hb : Below W.heap.size W W') : SpU X Z w0 W' g gd gp gt n V r q b E := by
  obtain ⟨p, j, T, u, H, ws, M, U, s, t, x⟩ := a
  exact ⟨p, j, T, u, H, ws, M, U.below hb, s, t.below hb, x⟩
theorem SpU.less {E' : Nat → Prop} (a : SpU X Z w0 W g gd gp gt n V r q b E) (h : ∀ k, E' k → E k) : SpU X Z w0 W g gd gp gt n V r q b E' := by
  obtain ⟨p, j, T, u, H, ws, M, U, s, t, x1, x2, x3, x4, x5⟩ := a
  exact ⟨p, j, T, u, H, ws, M, U.less (fun k hk => hk.imp id (h k)), s, t, x1, x2, x3, fun k hk => x4 k (h k hk), x5⟩
/-- Blocks made behind, and changes of such alone. -/
theorem SpU.add {E' : Nat → Prop} (a : SpU X Z w0 W g gd gp gt n V r q b E) (ho : Only (fun k => E k ∨ W.heap.size ≤ k) W W') (hE : ∀ k, E' k → E k ∨ (W.heap.size ≤ k ∧ k < W'.heap.size)) : SpU X Z w0 W' g gd gp gt n V r q b E' := by
  obtain ⟨p, j, T, u, H, ws, M, U, s, t, x1, x2, x3, x4, x5⟩ := a
  have hlt := t.lt
  have hml := t.ml
  refine ⟨p, j, T, u, H, ws, M, U.own (ho.mono (fun k _ hk => hk.imp .inr id)) (fun k hk => ?_), s, t.only ho (fun h => h.elim (fun h => (x4 gt h).1 rfl) (fun h => by omega)) (fun k hk h => h.elim (fun h => (x4 k h).2 hk) (fun h => by have := hml k hk; omega)), x1, x2, x3, fun k hk => ?_, x5⟩
  · rcases hk with hk | hk
    · exact .inl (.inl hk)
    · exact (hE k hk).imp .inr id
  · rcases hE k hk with h | h
    · exact x4 k h
    · exact ⟨by omega, fun hM => by have := hml k hM; omega⟩
/-- What Read of sector 1 hands back. -/
theorem SpU.see (a : SpU X Z w0 W g gd gp gt n V r q b E) (hV : V ≤ 1073000000) :
    Calls Tryz.prog 87 #[.pointer (some ⟨gt, 0, none⟩), .int .i64 ((1 : Nat) : Int)] W fun en W' => ∃ A m c, en = .returned (.tuple #[.slice A m c, .int .i64 0]) ∧ HasB W' W'.heap.size A m b ∧ SpU X Z w0 W' g gd gp gt n V r q b E ∧ Only (fun k => ¬ E k) W W' := by
  have sz := a.sz hV
  obtain ⟨p, j, T, u, H, ws, M, U, s, t, x1, x2, x3, x4, x5⟩ := a
  by_cases h1 : (ws.getD 1 emp).size = 0
  · refine (tread_up U s hV t 1 (by omega) h1).mono ?_
    rintro en W' ⟨A, m, c, he, hx, u2, y⟩
    have e : H 1 = b := by rw [← x1]; unfold txH; rw [if_neg (by rw [h1]; exact fun h => h rfl)]
    rw [e] at hx
    refine ⟨A, m, c, he, hx.has, ⟨p, j, T, u, H, ws, M, u2.less (fun k hk => .inl hk), s, t.only y (fun h => h (.inl (.inl rfl))) (fun k hk h => h (.inl (.inr hk))), x1, x2, x3, x4, x5⟩, y.mono (fun k _ hk h => hk (.inr h))⟩
  · refine (tread_own t 1 (by omega) h1).mono ?_
    rintro en W' ⟨A, m, c, he, hx, hb⟩
    have e : lst (ws.getD 1 emp) = b := by rw [← x1]; unfold txH; rw [if_pos h1]
    rw [e] at hx
    exact ⟨A, m, c, he, hx.has, ⟨p, j, T, u, H, ws, M, U.below hb, s, t.below hb, x1, x2, x3, x4, x5⟩, Only.of_below hb (Nat.le_refl _)⟩
/-- What stays when sector 1 is written. -/
def StX (X : (Nat → List UInt8) → List ByteArray → Prop) : Prop := ∀ H ws l, X H ws → X H (ws.set 1 (strB l))
/-- What Write of sector 1 leaves. -/
theorem SpU.put (hX : StX X) (a : SpU X Z w0 W g gd gp gt n V r q b E) (hV : V ≤ 1073000000) (hq : q < 1073741824) (A : Option Addr) (c : Nat) (l : List UInt8) (hd : HasB W W.heap.size A 512 l) (hl : l.length = 512) (hc : 512 ≤ c) :
    Calls Tryz.prog 90 #[.pointer (some ⟨gt, 0, none⟩), .int .i64 ((1 : Nat) : Int), .slice A 512 c] W fun en W' => en = .returned (.int .i64 0) ∧ SpU X Z w0 W' g gd gp gt n V r (q + 1) l E ∧ Only (fun k => ¬ E k) W W' := by
  have sz := a.sz hV
  obtain ⟨p, j, T, u, H, ws, M, U, s, t, x1, x2, x3, x4, x5⟩ := a
  have hlt := U.lt
  refine (write_up U s hV t (.inl (.inl rfl)) (fun k hk => .inl (.inr hk)) 1 (by omega) A c l hd hl hc x3 hq).mono ?_
  rintro en W' ⟨he, M', t2, u2, hM, y⟩
  have wl := t.wl
  have hs : (strB l).size ≠ 0 := by
    rw [show (strB l).size = l.length from by simp [strB, ByteArray.size]]; omega
  have e : (ws.set 1 (strB l)).getD 1 emp = strB l := by rw [List.getD, List.getElem?_set, if_pos rfl, if_pos (by omega)]; rfl
  refine ⟨he, ⟨p, j, T, u, H, _, M', u2.less (fun k hk => ?_), s, t2, ?_, hl, .inl (by rw [e]; exact hs), fun k hk => ⟨(x4 k hk).1, fun h => ?_⟩, hX _ _ _ x5⟩, y.mono (fun k _ hk h => (x4 k h).1 hk)⟩
  · rcases hk with (hk | hk) | hk
    · exact .inl (.inl (.inl hk))
    · exact .inr hk
    · exact .inl (.inr hk)
  · unfold txH
    rw [e, if_pos hs]
    exact lst_strB l
  · rcases hM k h with h | h
    · exact (x4 k hk).2 h
    · have := (hlt k (.inr hk)).2
      omega
theorem SpU.homesT (a : SpU X Z w0 W g gd gp gt n V r q b E) (hV : V ≤ 1073000000) : Calls Tryz.prog 157 #[.pointer (some ⟨gt, 0, none⟩)] W (RetV2 W (.int .i64 ((n - 2 - r : Nat) : Int))) := by
  obtain ⟨p, j, T, u, H, ws, M, U, s, t, _⟩ := a
  have := thomes_any t U (s.jok hV).2.1
  rwa [s.homes.1] at this
/-- What load hands back: a bitmap of its own. -/
def RetLo (X : (Nat → List UInt8) → List ByteArray → Prop) (Z : DK) (w0 W : World) (g gd gp gt n V r q : Nat) (b : List UInt8) (E : Nat → Prop) (en : Ending) (W' : World) : Prop :=
  ∃ gm, en = .returned (.tuple #[.pointer (some ⟨gm, 0, none⟩), .int .i64 0]) ∧ BM W' gm (n - 2 - r) b ∧ SpU X Z w0 W' g gd gp gt n V r q b (fun k => E k ∨ k = gm) ∧ ¬ E gm ∧ Only (fun k => ¬ E k) W W'
set_option maxRecDepth 100000 in
set_option maxHeartbeats 2000000 in
theorem load_any (a : SpU X Z w0 W g gd gp gt n V r q b E) (hV : V ≤ 1073000000) : Calls Tryz.prog 80 #[.pointer (some ⟨gt, 0, none⟩)] W (RetLo X Z w0 W g gd gp gt n V r q b E) := by
  have CS := Lib.hid (a.see hV)
  have hl := (a.sz hV).2.2
  have CH : Hid (∀ W, SpU X Z w0 W g gd gp gt n V r q b E → Calls Tryz.prog 157 #[.pointer (some ⟨gt, 0, none⟩)] W (RetV2 W (.int .i64 ((n - 2 - r : Nat) : Int)))) := Lib.hid (fun W s => s.homesT hV)
  obtain ⟨h, hh⟩ : ∃ h, n - 2 - r = h := ⟨_, rfl⟩
  rw [hh] at CH
  have HH := Lib.hid hh
  have HL := Lib.hid hl
  have BB := Lib.hid (built_bm b hl (h : Int))
  clear a hh hl
  go_enter Tryz.func80, Tryz.ntmps80
  go_upto_region 4 with (first
    | (go_at_call 87; refine CS.out.mono ?_; rintro e w1 ⟨A1, m1, c1, rfl, hx1, s1, y1⟩
       have hm1 := hx1.len
       rw [HL.out] at hm1
       subst hm1
       obtain ⟨g1, o1, rfl, _, _⟩ := hx1.2 (by omega)
       have X1 := Lib.hid hx1
       have S1 := Lib.hid s1
       have Y1 := Lib.hid y1
       clear hx1 s1 y1))
  refine wp_region_held_drew (S := fun W => Below w1.heap.size w1 W) (by kernel_rfl) (Below.refl _ w1).drew (fun hHeld => ?_)
  refine wpAnyH_take (i := 0) (v := ?v0a) (by simp only [List.getElem?_toArray, List.getElem?_cons_succ, List.getElem?_cons_zero]; rfl) (by kernel_rfl) (by kernel_rfl) (by kernel_rfl) (by exact fun _ _ _ h => h) (Or.inl ⟨by rfl, ?h0a⟩) (by assumption) ?_
  case h0a => (intro W hSw; (try dsimp only at hSw); go_simp; try with_reducible rfl)
  try simp only [Act.put, List.setIfInBounds_toArray, List.set_cons_zero, List.set_cons_succ]
  refine wpAnyH_take (i := 1) (by simp only [List.getElem?_toArray, List.getElem?_cons_succ, List.getElem?_cons_zero]; rfl) (by kernel_rfl) (by kernel_rfl) (by kernel_rfl) (by exact fun _ _ _ h => h) (yieldsIf_arr2 (by rfl) 160 _ 512 (.tmp 14) rfl Tryz.underlying160 _ _ _ rfl (Nat.le_refl _)) (by assumption) ?_
  try simp only [Act.put, List.setIfInBounds_toArray, List.set_cons_zero, List.set_cons_succ]
  refine wpAnyH_take (i := 2) (by simp only [List.getElem?_toArray, List.getElem?_cons_succ, List.getElem?_cons_zero]; rfl) (by kernel_rfl) (by kernel_rfl) (by kernel_rfl) (by exact fun _ _ _ h => h) (yieldsIf_loadG (by rfl) 160 (.tmp 15) rfl ⟨g1, o1, none⟩ rfl _ (fun W hW => (X1.out.on hW).load_bits HL.out)) (by assumption) ?_
  try simp only [Act.put, List.setIfInBounds_toArray, List.set_cons_zero, List.set_cons_succ]
  refine wpAnyH_take (i := 3) (v := ?v3a) (by simp only [List.getElem?_toArray, List.getElem?_cons_succ, List.getElem?_cons_zero]; rfl) (by kernel_rfl) (by kernel_rfl) (by kernel_rfl) (by exact fun _ _ _ h => h) (Or.inl ⟨by rfl, ?h3a⟩) (by assumption) ?_
  case h3a => (intro W hSw; (try dsimp only at hSw); go_simp; try with_reducible rfl)
  try simp only [Act.put, List.setIfInBounds_toArray, List.set_cons_zero, List.set_cons_succ]
  refine wpAnyH_ready (rs := [4]) (by kernel_rfl) (by simp) ?_
  refine AllReadyH.cons (by simp only [List.getElem?_toArray, List.getElem?_cons_succ, List.getElem?_cons_zero]; rfl) (fun K hK => ?_) AllReadyH.nil
  go_simp
  refine (CH.out _ (S1.out.below (Below.refl _ w1).drew)).mono ?_
  rintro en w6 ⟨rfl, b6⟩
  have S6 : Below w1.heap.size w1 w6 := ((Below.refl w1.heap.size w1).drew).trans (b6.mono (Nat.le_refl _))
  refine hK _ _ S6 (fun hH4 => ?_)
  clear hK K
  try simp only [Act.put, List.setIfInBounds_toArray, List.set_cons_zero, List.set_cons_succ]
  refine wpAnyH_take (i := 5) (by simp only [List.getElem?_toArray, List.getElem?_cons_succ, List.getElem?_cons_zero]; rfl) (by kernel_rfl) (by kernel_rfl) (by kernel_rfl) (by exact fun _ _ _ h => h) (yieldsIf_build2 (by rfl) 162 0 1 (.tmp 16) (.tmp 18) rfl _ _ rfl rfl _ BB.out) (by assumption) ?_
  try simp only [Act.put, List.setIfInBounds_toArray, List.set_cons_zero, List.set_cons_succ]
  refine wpAnyH_ready (rs := [6]) (by kernel_rfl) (by simp) ?_
  refine AllReadyH.cons (by simp only [List.getElem?_toArray, List.getElem?_cons_succ, List.getElem?_cons_zero]; rfl) (fun K hK => ?_) AllReadyH.nil
  go_simp
  generalize hWa : World.alloc _ _ = w7
  have b67 : Below w6.heap.size w6 w7 := by rw [← hWa]; exact (Below.refl _ w6).alloc (Nat.le_refl _) _
  have S7 : Below w1.heap.size w1 w7 := S6.trans (b67.mono S6.size)
  have bm7 : BM w7 w6.heap.size h b := ⟨by rw [← hWa]; exact heap_alloc_new w6 _, HL.out⟩
  clear hWa
  refine hK _ _ S7 (fun hH6 => ?_)
  clear hK K
  try simp only [Act.put, List.setIfInBounds_toArray, List.set_cons_zero, List.set_cons_succ]
  refine wpAnyH_take (i := 7) (v := ?v7a) (by simp only [List.getElem?_toArray, List.getElem?_cons_succ, List.getElem?_cons_zero]; rfl) (by kernel_rfl) (by kernel_rfl) (by kernel_rfl) (by exact fun _ _ _ h => h) (Or.inl ⟨by rfl, ?h7a⟩) (by assumption) ?_
  case h7a => (intro W hSw; (try dsimp only at hSw); go_simp; try with_reducible rfl)
  try simp only [Act.put, List.setIfInBounds_toArray, List.set_cons_zero, List.set_cons_succ]
  refine wpAnyH_take (i := 8) (v := ?v8a) (by simp only [List.getElem?_toArray, List.getElem?_cons_succ, List.getElem?_cons_zero]; rfl) (by kernel_rfl) (by kernel_rfl) (by kernel_rfl) (by exact fun _ _ _ h => h) (Or.inl ⟨by rfl, ?h8a⟩) (by assumption) ?_
  case h8a => (intro W hSw; (try dsimp only at hSw); go_simp; try with_reducible rfl)
  try simp only [Act.put, List.setIfInBounds_toArray, List.set_cons_zero, List.set_cons_succ]
  refine wpAnyH_done (by kernel_rfl) ?_ _
  go_wp2_with fail
  go_ret2
  rw [← HH.out] at bm7
  have s6 := S1.out.below S6
  refine ⟨w6.heap.size, rfl, bm7, s6.add (Only.of_below b67 (Nat.le_refl _)) (fun k hk => hk.imp id (fun h => by have := bm7.lt; omega)), fun h => by have := (s6.lt _ h).2; omega, Y1.out.trans' (Only.of_below S7 (Nat.le_refl _)) (fun _ _ h => h)⟩
set_option maxRecDepth 100000 in
theorem store_any (hX : StX X) {gm h : Nat} {b2 : List UInt8} (a : SpU X Z w0 W g gd gp gt n V r q b E) (hV : V ≤ 1073000000) (hq : q < 1073741824) (m : BM W gm h b2) :
    Calls Tryz.prog 84 #[.pointer (some ⟨gm, 0, none⟩), .pointer (some ⟨gt, 0, none⟩)] W fun en W' => en = .returned (.int .i64 0) ∧ SpU X Z w0 W' g gd gp gt n V r (q + 1) b2 E ∧ Only (fun k => ¬ E k) W W' := by
  have CW := Lib.hid (a.put hX hV hq (some ⟨gm, 0, none⟩) 512 b2 m.has m.2 (Nat.le_refl _))
  clear a m
  go_enter Tryz.func84, Tryz.ntmps84
  go_wp2_with (first
    | (go_at_call 90; refine CW.out.mono ?_; rintro e w1 ⟨rfl, s1, y1⟩
       have S1 := Lib.hid s1
       have Y1 := Lib.hid y1
       clear s1 y1))
  go_ret
  exact ⟨rfl, S1.out, Y1.out⟩
end
end Go.Proofs.YtjpicaofgiagdaaGreat
namespace Go.Proofs.YtjpicaofgiagdaaGreat
open Go.RowKit Go.Maps
set_option linter.unusedVariables false
set_option linter.unusedSimpArgs false

/-! ### Gaps and extents -/
theorem IsGap.uniq {b : List UInt8} {h n s s' : Nat} (a : IsGap b h n s) (a' : IsGap b h n s') : s = s' := by
  rcases Nat.lt_trichotomy s s' with hl | hl | hl
  · obtain ⟨j, hj, ht⟩ := a'.2.2 s hl
    rw [a.2.1 j hj] at ht; cases ht
  · exact hl
  · obtain ⟨j, hj, ht⟩ := a.2.2 s' hl
    rw [a'.2.1 j hj] at ht; cases ht
theorem NoGap.gap {b : List UInt8} {h n s : Nat} (a : NoGap b h n) (g : IsGap b h n s) : False := by
  obtain ⟨j, hj, ht⟩ := a s g.1
  rw [g.2.1 j hj] at ht; cases ht
theorem least {P : Nat → Prop} : ∀ N, (∃ s, s < N ∧ P s) → ∃ s, P s ∧ ∀ s', s' < s → ¬ P s'
  | 0, ⟨s, h, _⟩ => by omega
  | N + 1, ⟨s, h, hp⟩ => by
    by_cases hn : ∃ s, s < N ∧ P s
    · exact least N hn
    · have : s = N := by
        by_cases h2 : s < N
        · exact absurd ⟨s, h2, hp⟩ hn
        · omega
      subst this
      exact ⟨s, hp, fun s' hs' hp' => hn ⟨s', hs', hp'⟩⟩
theorem gap_or (b : List UInt8) (h n : Nat) : NoGap b h n ∨ ∃ s, IsGap b h n s := by
  by_cases hg : NoGap b h n
  · exact .inl hg
  · refine .inr ?_
    unfold NoGap at hg
    have : ∃ s, s + n ≤ h ∧ ∀ j, j < n → tkB b (s + j) = false := by
      refine Classical.byContradiction fun hc => hg fun s hs => Classical.byContradiction fun hn => hc ⟨s, hs, fun j hj => ?_⟩
      cases ht : tkB b (s + j) with
      | false => rfl
      | true => exact absurd ⟨j, hj, ht⟩ hn
    obtain ⟨s, hs⟩ := this
    obtain ⟨s1, h1, h2⟩ := least (P := fun s => s + n ≤ h ∧ ∀ j, j < n → tkB b (s + j) = false) (s + 1) ⟨s, by omega, hs⟩
    refine ⟨s1, h1.1, h1.2, fun s' hs' => Classical.byContradiction fun hn => h2 s' hs' ⟨by have := h1.1; omega, fun j hj => ?_⟩⟩
    cases ht : tkB b (s' + j) with
    | false => rfl
    | true => exact absurd ⟨j, hj, ht⟩ hn
theorem tk_flip (b : List UInt8) (hl : b.length = 512) (s n x : Nat) (h4 : 4 ≤ s) (hs : s + n ≤ 4096) : tkB (flipL b s n) x = if s ≤ x ∧ x < s + n then !tkB b x else tkB b x := by
  unfold tkB
  rw [flipL_bit b s n x (by omega) (fun hn => by omega)]
  by_cases hx : s ≤ x ∧ x < s + n
  · rw [if_pos hx, if_pos hx, decide_eq_false (by omega)]; simp
  · rw [if_neg hx, if_neg hx]
theorem IsGap.four {b : List UInt8} {h n s : Nat} (a : IsGap b h n s) (hn : 1 ≤ n) : 4 ≤ s := by
  have := a.2.1 0 (by omega)
  rw [Nat.add_zero] at this
  unfold tkB at this
  simp at this
  exact this.1
theorem tk_take {b : List UInt8} {h n s : Nat} (hl : b.length = 512) (hh : h ≤ 4096) (hn : 1 ≤ n) (a : IsGap b h n s) (x : Nat) : tkB (flipL b s n) x = (tkB b x || (decide (s ≤ x) && decide (x < s + n))) := by
  have h1 := a.1
  rw [tk_flip b hl s n x (a.four hn) (by omega)]
  by_cases hx : s ≤ x ∧ x < s + n
  · have := a.2.1 (x - s) (by omega)
    rw [show s + (x - s) = x by omega] at this
    rw [if_pos hx, this, decide_eq_true hx.1, decide_eq_true hx.2]; rfl
  · rw [if_neg hx]
    by_cases h1 : s ≤ x
    · rw [decide_eq_false (p := x < s + n) (by omega)]; simp
    · rw [decide_eq_false h1]; simp
theorem tk_free {b : List UInt8} {h s n : Nat} (hl : b.length = 512) (hh : h ≤ 4096) (a : IsExt b h (s : Int) (n : Int)) (x : Nat) : tkB (flipL b s n) x = (tkB b x && !(decide (s ≤ x) && decide (x < s + n))) := by
  obtain ⟨h1, h2, h3⟩ := a
  rw [tk_flip b hl s n x (by omega) (by omega)]
  by_cases hx : s ≤ x ∧ x < s + n
  · have := h3 (x - s) (by omega)
    rw [Int.toNat_natCast, show s + (x - s) = x by omega] at this
    rw [if_pos hx, this, decide_eq_true hx.1, decide_eq_true hx.2]; rfl
  · rw [if_neg hx]
    by_cases h1 : s ≤ x
    · rw [decide_eq_false (p := x < s + n) (by omega)]; simp
    · rw [decide_eq_false h1]; simp
/-- How many are free. -/
def cntF (b : List UInt8) : Nat → Nat
  | 0 => 0
  | i + 1 => cntF b i + if tkB b i then 0 else 1
theorem cntF_le (b : List UInt8) : ∀ i, cntF b i ≤ i
  | 0 => Nat.le_refl _
  | i + 1 => by unfold cntF; have := cntF_le b i; split <;> omega
section
variable {X : (Nat → List UInt8) → List ByteArray → Prop} {Z : DK} {w0 W W' : World} {g gd gp gt n V r q : Nat} {b : List UInt8} {E : Nat → Prop}
theorem BM.gap_yes {gm h : Nat} (a : BM W gm h b) (hh : h ≤ 4096) (k s : Nat) (h1 : 1 ≤ k) (h2 : k ≤ 64) (hg : IsGap b h k s) : Calls Tryz.prog 82 #[.pointer (some ⟨gm, 0, none⟩), .int .i64 (k : Int)] W fun e w' => e = .returned (.tuple #[.int .i64 (s : Int), .bool true]) ∧ W = w' := by
  refine (gap_any a hh k h1 h2).mono ?_
  rintro e w' ⟨rfl, ⟨s', rfl, hs'⟩ | ⟨_, hn⟩⟩
  · rw [hg.uniq hs']; exact ⟨rfl, rfl⟩
  · exact (hn.gap hg).elim
theorem BM.gap_no {gm h : Nat} (a : BM W gm h b) (hh : h ≤ 4096) (k : Nat) (h1 : 1 ≤ k) (h2 : k ≤ 64) (hg : NoGap b h k) : Calls Tryz.prog 82 #[.pointer (some ⟨gm, 0, none⟩), .int .i64 (k : Int)] W fun e w' => e = .returned (.tuple #[.int .i64 0, .bool false]) ∧ W = w' := by
  refine (gap_any a hh k h1 h2).mono ?_
  rintro e w' ⟨rfl, ⟨s', rfl, hs'⟩ | ⟨rfl, hn⟩⟩
  · exact (hg.gap hs').elim
  · exact ⟨rfl, rfl⟩
/-- What a function of space leaves. -/
def RetSp (X : (Nat → List UInt8) → List ByteArray → Prop) (Z : DK) (w0 W : World) (g gd gp gt n V r q : Nat) (b : List UInt8) (E : Nat → Prop) (v : Value) (en : Ending) (W' : World) : Prop :=
  en = .returned v ∧ SpU X Z w0 W' g gd gp gt n V r q b E ∧ Only (fun k => ¬ E k) W W'
set_option maxRecDepth 100000 in
set_option maxHeartbeats 1000000 in
theorem take_yes (hX : StX X) (a : SpU X Z w0 W g gd gp gt n V r q b E) (hV : V ≤ 1073000000) (hq : q < 1073741824) (k s : Nat) (h1 : 1 ≤ k) (h2 : k ≤ 64) (hg : IsGap b (n - 2 - r) k s) :
    Calls Tryz.prog 19 #[.pointer (some ⟨gt, 0, none⟩), .int .i64 (k : Int)] W (RetSp X Z w0 W g gd gp gt n V r (q + 1) (flipL b s k) E (.tuple #[.int .i64 (s : Int), .int .i64 0])) := by
  have sz := a.sz hV
  have CL := Lib.hid (load_any a hV)
  have hs1 := hg.1
  have CM : Hid (∀ W, Calls Tryz.prog 81 #[.int .i64 (k : Int)] W fun e w' => e = .returned (.bool true) ∧ W = w') := Lib.hid (fun W => may_any (k : Int) W (by omega) true (decide_eq_true (by omega)))
  obtain ⟨h, hh⟩ : ∃ h, n - 2 - r = h := ⟨_, rfl⟩
  have HH := Lib.hid hh
  have GG := Lib.hid hg
  have h4096 : h ≤ 4096 := by omega
  have hsk : s + k ≤ h := by omega
  clear a hg hs1 hh
  go_enter Tryz.func19, Tryz.ntmps19
  go_wp2_with (first
    | (go_at_call 80; refine CL.out.mono ?_; rintro e w1 ⟨gm, rfl, bm, s1, ne, y1⟩
       have g1 := GG.out
       rw [HH.out] at bm g1
       have CG := Lib.hid (bm.gap_yes h4096 k s h1 h2 g1)
       have CF := Lib.hid (flip_any bm s k (by omega))
       have S1 := Lib.hid s1
       have NE := Lib.hid ne
       have Y1 := Lib.hid y1
       clear bm s1 ne y1 g1)
    | (go_at_call 81; refine (CM.out _).mono ?_; rintro e w2 ⟨rfl, rfl⟩)
    | (go_at_call 82; refine CG.out.mono ?_; rintro e w2 ⟨rfl, rfl⟩)
    | (go_at_call 83; refine CF.out.mono ?_; rintro e w3 ⟨rfl, bm3, y3⟩
       have s3 := S1.out.add (E' := fun q => E q ∨ q = gm) (y3.mono (fun q _ hq => .inl (.inr hq))) (fun q hq => .inl hq)
       have CS := Lib.hid (store_any hX s3 hV hq bm3)
       have Y3 := Lib.hid (Y1.out.trans (y3.mono (fun q _ hq hE => NE.out (by rw [← hq]; exact hE))))
       clear bm3 s3 y3)
    | (go_at_call 84; refine CS.out.mono ?_; rintro e w4 ⟨rfl, s4, y4⟩
       have S4 := Lib.hid (s4.less (E' := E) (fun q hq => .inl hq))
       have Y4 := Lib.hid (Y3.out.trans (y4.mono (fun q _ hq hE => hq (.inl hE))))
       clear s4 y4))
  go_ret2
  exact ⟨rfl, S4.out, Y4.out⟩
set_option maxRecDepth 100000 in
set_option maxHeartbeats 1000000 in
theorem take_no (a : SpU X Z w0 W g gd gp gt n V r q b E) (hV : V ≤ 1073000000) (k : Nat) (h1 : 1 ≤ k) (h2 : k ≤ 64) (hg : NoGap b (n - 2 - r) k) :
    Calls Tryz.prog 19 #[.pointer (some ⟨gt, 0, none⟩), .int .i64 (k : Int)] W (RetSp X Z w0 W g gd gp gt n V r q b E (.tuple #[.int .i64 0, .int .i64 7])) := by
  have sz := a.sz hV
  have CL := Lib.hid (load_any a hV)
  have CM : Hid (∀ W, Calls Tryz.prog 81 #[.int .i64 (k : Int)] W fun e w' => e = .returned (.bool true) ∧ W = w') := Lib.hid (fun W => may_any (k : Int) W (by omega) true (decide_eq_true (by omega)))
  have GG := Lib.hid hg
  have HS := Lib.hid sz.2.1
  clear a hg
  go_enter Tryz.func19, Tryz.ntmps19
  go_wp2_with (first
    | (go_at_call 80; refine CL.out.mono ?_; rintro e w1 ⟨gm, rfl, bm, s1, ne, y1⟩
       have CG := Lib.hid (bm.gap_no HS.out k h1 h2 GG.out)
       have S1 := Lib.hid (s1.less (E' := E) (fun q hq => .inl hq))
       have Y1 := Lib.hid y1
       clear bm s1 ne y1)
    | (go_at_call 81; refine (CM.out _).mono ?_; rintro e w2 ⟨rfl, rfl⟩)
    | (go_at_call 82; refine CG.out.mono ?_; rintro e w2 ⟨rfl, rfl⟩))
  go_ret2
  exact ⟨rfl, S1.out, Y1.out⟩
set_option maxRecDepth 100000 in
set_option maxHeartbeats 1000000 in
theorem free_yes (hX : StX X) (a : SpU X Z w0 W g gd gp gt n V r q b E) (hV : V ≤ 1073000000) (hq : q < 1073741824) (s k : Nat) (h1 : 1 ≤ k) (h2 : k ≤ 64) (hx : IsExt b (n - 2 - r) (s : Int) (k : Int)) :
    Calls Tryz.prog 21 #[.pointer (some ⟨gt, 0, none⟩), .int .i64 (s : Int), .int .i64 (k : Int)] W (RetSp X Z w0 W g gd gp gt n V r (q + 1) (flipL b s k) E (.int .i64 0)) := by
  have sz := a.sz hV
  have CL := Lib.hid (load_any a hV)
  have hs1 := hx.2.1
  have CM : Hid (∀ W, Calls Tryz.prog 81 #[.int .i64 (k : Int)] W fun e w' => e = .returned (.bool true) ∧ W = w') := Lib.hid (fun W => may_any (k : Int) W (by omega) true (decide_eq_true (by omega)))
  have GG := Lib.hid hx
  have hsk : s + k ≤ 4096 := by omega
  have HS := Lib.hid sz.2.1
  clear a hx hs1
  go_enter Tryz.func21, Tryz.ntmps21
  go_wp2_with (first
    | (go_at_call 80; refine CL.out.mono ?_; rintro e w1 ⟨gm, rfl, bm, s1, ne, y1⟩
       have CG := Lib.hid (ext_any bm HS.out (s : Int) k (by omega) h1 h2 true ⟨fun _ => GG.out, fun _ => rfl⟩)
       have CF := Lib.hid (flip_any bm s k hsk)
       have S1 := Lib.hid s1
       have NE := Lib.hid ne
       have Y1 := Lib.hid y1
       clear bm s1 ne y1)
    | (go_at_call 81; refine (CM.out _).mono ?_; rintro e w2 ⟨rfl, rfl⟩)
    | (go_at_call 85; refine CG.out.mono ?_; rintro e w2 ⟨rfl, rfl⟩)
    | (go_at_call 83; refine CF.out.mono ?_; rintro e w3 ⟨rfl, bm3, y3⟩
       have s3 := S1.out.add (E' := fun q => E q ∨ q = gm) (y3.mono (fun q _ hq => .inl (.inr hq))) (fun q hq => .inl hq)
       have CS := Lib.hid (store_any hX s3 hV hq bm3)
       have Y3 := Lib.hid (Y1.out.trans (y3.mono (fun q _ hq hE => NE.out (by rw [← hq]; exact hE))))
       clear bm3 s3 y3)
    | (go_at_call 84; refine CS.out.mono ?_; rintro e w4 ⟨rfl, s4, y4⟩
       have S4 := Lib.hid (s4.less (E' := E) (fun q hq => .inl hq))
       have Y4 := Lib.hid (Y3.out.trans (y4.mono (fun q _ hq hE => hq (.inl hE))))
       clear s4 y4))
  go_ret
  exact ⟨rfl, S4.out, Y4.out⟩
set_option maxRecDepth 100000 in
set_option maxHeartbeats 1000000 in
theorem free_no (a : SpU X Z w0 W g gd gp gt n V r q b E) (hV : V ≤ 1073000000) (s : Int) (k : Nat) (hs : -9223372036854775808 ≤ s ∧ s ≤ 9223372036854775807) (h1 : 1 ≤ k) (h2 : k ≤ 64) (hx : ¬ IsExt b (n - 2 - r) s (k : Int)) :
    Calls Tryz.prog 21 #[.pointer (some ⟨gt, 0, none⟩), .int .i64 s, .int .i64 (k : Int)] W (RetSp X Z w0 W g gd gp gt n V r q b E (.int .i64 1)) := by
  have sz := a.sz hV
  have CL := Lib.hid (load_any a hV)
  have CM : Hid (∀ W, Calls Tryz.prog 81 #[.int .i64 (k : Int)] W fun e w' => e = .returned (.bool true) ∧ W = w') := Lib.hid (fun W => may_any (k : Int) W (by omega) true (decide_eq_true (by omega)))
  have GG := Lib.hid hx
  have HS := Lib.hid sz.2.1
  have HB := Lib.hid hs
  clear a hx hs
  go_enter Tryz.func21, Tryz.ntmps21
  go_wp2_with (first
    | (go_at_call 80; refine CL.out.mono ?_; rintro e w1 ⟨gm, rfl, bm, s1, ne, y1⟩
       have CG := Lib.hid (ext_any bm HS.out s k HB.out h1 h2 false ⟨fun h => (Bool.false_ne_true h).elim, fun h => absurd h GG.out⟩)
       have S1 := Lib.hid (s1.less (E' := E) (fun q hq => .inl hq))
       have Y1 := Lib.hid y1
       clear bm s1 ne y1)
    | (go_at_call 81; refine (CM.out _).mono ?_; rintro e w2 ⟨rfl, rfl⟩)
    | (go_at_call 85; refine CG.out.mono ?_; rintro e w2 ⟨rfl, rfl⟩))
  go_ret
  exact ⟨rfl, S1.out, Y1.out⟩
set_option maxRecDepth 100000 in
set_option maxHeartbeats 1000000 in
theorem taken_sp (a : SpU X Z w0 W g gd gp gt n V r q b E) (hV : V ≤ 1073000000) (i : Nat) (hi : i < n - 2 - r) :
    Calls Tryz.prog 23 #[.pointer (some ⟨gt, 0, none⟩), .int .i64 (i : Int)] W (RetSp X Z w0 W g gd gp gt n V r q b E (.tuple #[.bool (tkB b i), .int .i64 0])) := by
  have sz := a.sz hV
  have CL := Lib.hid (load_any a hV)
  obtain ⟨h, hh⟩ : ∃ h, n - 2 - r = h := ⟨_, rfl⟩
  have HH := Lib.hid hh
  have hih : i < h := by omega
  have h4096 : h ≤ 4096 := by omega
  obtain ⟨t, ht⟩ : ∃ t, tkB b i = t := ⟨_, rfl⟩
  have HT := Lib.hid ht
  rw [ht]
  clear a hi hh sz ht
  go_enter Tryz.func23, Tryz.ntmps23
  go_upto_region 4 with (first
    | (go_at_call 80; refine CL.out.mono ?_; rintro e w1 ⟨gm, rfl, bm, s1, ne, y1⟩
       rw [HH.out] at bm
       have ct := taken_any bm i (by omega)
       rw [HT.out] at ct
       have CT := Lib.hid ct
       have CH := bm.homes
       have S1 := Lib.hid (s1.less (E' := E) (fun q hq => .inl hq))
       have Y1 := Lib.hid y1
       clear bm s1 ne y1 ct))
  go_wp2_with (first
    | (go_at_call 86; refine CT.out.mono ?_; rintro e w2 ⟨rfl, rfl⟩))
  go_ret2
  exact ⟨rfl, S1.out, Y1.out⟩
set_option maxRecDepth 100000 in
set_option maxHeartbeats 1000000 in
theorem left_sp (a : SpU X Z w0 W g gd gp gt n V r q b E) (hV : V ≤ 1073000000) :
    Calls Tryz.prog 55 #[.pointer (some ⟨gt, 0, none⟩)] W (RetSp X Z w0 W g gd gp gt n V r q b E (.tuple #[.int .i64 ((cntF b (n - 2 - r) : Nat) : Int), .int .i64 0])) := by
  have sz := a.sz hV
  have CL := Lib.hid (load_any a hV)
  obtain ⟨h, hh⟩ : ∃ h, n - 2 - r = h := ⟨_, rfl⟩
  have HH := Lib.hid hh
  have h4096 : h ≤ 4096 := by omega
  rw [hh]
  clear a hh sz
  go_enter Tryz.func55, Tryz.ntmps55
  go_upto_region 5 with (first
    | (go_at_call 80; refine CL.out.mono ?_; rintro e w1 ⟨gm, rfl, bm, s1, ne, y1⟩
       rw [HH.out] at bm
       have CH := bm.homes
       have BB := Lib.hid bm
       have S1 := Lib.hid (s1.less (E' := E) (fun q hq => .inl hq))
       have Y1 := Lib.hid y1
       clear bm s1 ne y1))
  go_wp2_with fail
  go_loop [6, 20] (fun x i => ∃ k : Nat, k ≤ h ∧ i = .int .i64 (k : Int) ∧ x = .int .i64 ((cntF b k : Nat) : Int)) (fun _ i => h - (intOf i).toNat)
  case atStart => exact ⟨0, Nat.zero_le _, rfl, rfl⟩
  case round =>
    obtain ⟨k, hk, rfl, rfl⟩ := hrel
    have hc := cntF_le b k
    by_cases hlt : k < h
    · have CT := taken_any BB.out k (by omega)
      obtain ⟨t, ht⟩ : ∃ t, tkB b k = t := ⟨_, rfl⟩
      rw [ht] at CT
      have CTH := Lib.hid CT
      have HS : Hid (cntF b (k + 1) = cntF b k + if t then 0 else 1) := Lib.hid (by rw [← ht]; rfl)
      obtain ⟨C, hC⟩ : ∃ C, cntF b k = C := ⟨_, rfl⟩
      rw [hC] at HS hc ⊢
      clear CT ht hC
      cases t
      · go_wp2_with (first
          | (go_at_call 86; refine CTH.out.mono ?_; rintro e w2 ⟨rfl, rfl⟩))
        go_round
        case rel => exact ⟨k + 1, by omega, by go_num, by rw [HS.out]; simp only [Bool.false_eq_true, ite_false]; go_num⟩
        case measure => simp [intOf]; omega
      · go_wp2_with (first
          | (go_at_call 86; refine CTH.out.mono ?_; rintro e w2 ⟨rfl, rfl⟩))
        go_round
        case rel => exact ⟨k + 1, by omega, by go_num, by rw [HS.out]; simp⟩
        case measure => simp [intOf]; omega
    · obtain rfl : k = h := by omega
      go_wp2_with fail
      go_ret2
      exact ⟨rfl, S1.out, Y1.out⟩
end
end Go.Proofs.YtjpicaofgiagdaaGreat
namespace Go.Proofs.YtjpicaofgiagdaaGreat
open Go.RowKit Go.Maps
set_option linter.unusedVariables false
set_option linter.unusedSimpArgs false

theorem zc57 : Tryz.zeroCells160 = (cellsB zsec).toArray := by kernel_rfl
def fmtS (k : Nat) : List UInt8 := if k = 1 then zsec.set 0 15 else zsec
theorem fmtS_len (k : Nat) : (fmtS k).length = 512 := by unfold fmtS; split <;> simp [zsec_len]
def fmtW (h : Nat) : Nat → List ByteArray
  | 0 => List.replicate h emp
  | k + 1 => (fmtW h k).set k (strB (fmtS k))
theorem fmtW_len (h : Nat) : ∀ k, (fmtW h k).length = h
  | 0 => by simp [fmtW]
  | k + 1 => by rw [fmtW, List.length_set, fmtW_len h k]
theorem strB_ne {l : List UInt8} (h : l.length = 512) : (strB l).size ≠ 0 := by
  rw [show (strB l).size = l.length from by simp [strB, ByteArray.size]]; omega
theorem fmtW_cnt (h : Nat) (hh : 4 ≤ h) : ∀ k, k ≤ 4 → (frK (fmtW h k) h).length ≤ k
  | 0, _ => by rw [fmtW, frK_rep]; exact Nat.le_refl _
  | k + 1, hk => by
    have := fmtW_cnt h hh k (by omega)
    rw [fmtW, frK_cnt (by rw [fmtW_len]; omega) (strB_ne (fmtS_len k))]
    split <;> omega
theorem fmtW_one (h : Nat) (hh : 4 ≤ h) : (fmtW h 4).getD 1 emp = strB (fmtS 1) := by
  have e : ∀ (l : List ByteArray) (i : Nat) (s : ByteArray), i ≠ 1 → (l.set i s).getD 1 emp = l.getD 1 emp := fun l i s hi => by rw [List.getD, List.getElem?_set, if_neg hi]; rfl
  rw [fmtW, e _ _ _ (by decide), fmtW, e _ _ _ (by decide), fmtW, List.getD, List.getElem?_set, if_pos rfl, if_pos (by rw [fmtW_len]; omega)]
  rfl
section
variable {Z : DK} {w0 W W' : World} {g gd gp gt n V T u r : Nat} {p : Pt} {j : JM} {H : Nat → List UInt8} {M B : Nat → Prop} {ws : List ByteArray} {q : Nat}
theorem sfin_any (U : UpB Z w0 W g gd gp n p j B) (s : SJ p n V j T u r H) (t : TO W gt g (T - 1) (n - 2 - r) q ws M) (hV : V ≤ 1073000000) : Calls Tryz.prog 156 #[.pointer (some ⟨gt, 0, none⟩)] W (RetV2 W (.bool false)) := by
  have CH := thomes_any t U (s.jok hV).2.1
  obtain ⟨b1, b2, b3, b4, b5, b6, b7, b8, b9, b10, b11, b12⟩ := s.homes
  rw [b1] at CH
  obtain ⟨h, hh⟩ : ∃ h, n - 2 - r = h := ⟨_, rfl⟩
  rw [hh] at CH
  have h1 : 8 ≤ h := by omega
  have CHH := Lib.hid CH
  clear CH U s t
  go_enter Tryz.func156, Tryz.ntmps156
  go_wp2_with (first
    | (go_at_call 157; refine CHH.out.mono ?_; rintro e w1 ⟨rfl, b1⟩
       have B1 := Lib.hid b1
       clear b1))
  go_ret
  exact ⟨by first | rfl | (congr 2; simp; omega), B1.out⟩
theorem load_tx (t : TO W gt g T (n - 2 - r) q ws M) : ∃ cs : Array Value, cs.size = 3 ∧ (∀ v ∈ cs.toList, v.oneCell' = true) ∧ (loadVar 171 ⟨gt, 0, none⟩).run Tryz.prog W = .ok (.agg cs) W := by
  obtain ⟨gm, _, _, _, _, hg⟩ := t.cells
  refine ⟨_, rfl, ?_, run_loadVar_row W gt _ 171 _ (0, 0) _ hg Tryz.underlying171 rfl infoTx⟩
  intro v hv
  simp [txC] at hv
  rcases hv with rfl | rfl | rfl <;> rfl
set_option maxRecDepth 100000 in
set_option maxHeartbeats 2000000 in
theorem format8_any (U : UpB Z w0 W g gd gp n p j (fun k => k = gt ∨ M k)) (s : SJ p n V j T u r H) (t : TO W gt g (T - 1) (n - 2 - r) 0 (List.replicate (n - 2 - r) emp) M) (hV : V ≤ 1073000000) :
    Calls Tryz.prog 79 #[.pointer (some ⟨gt, 0, none⟩)] W fun en W' => en = .returned (.int .i64 0) ∧ ∃ M', TO W' gt g (T - 1) (n - 2 - r) 4 (fmtW (n - 2 - r) 4) M' ∧ UpB Z w0 W' g gd gp n p j (fun k => k = gt ∨ M' k) := by
  have CF := Lib.hid (sfin_any U s t hV)
  obtain ⟨b1, b2, b3, b4, b5, b6, b7, b8, b9, b10, b11, b12⟩ := s.homes
  obtain ⟨cs, hcs, hc1, hld⟩ := load_tx t
  have CS := Lib.hid hcs
  have C1 := Lib.hid hc1
  have LD : Hid (∀ W', Below W.heap.size W W' → (loadVar 171 ⟨gt, 0, none⟩).run Tryz.prog W' = .ok (.agg cs) W') := Lib.hid (fun W' hb => by
    obtain ⟨gm, _, _, _, _, hg⟩ := t.cells
    have e1 := run_loadVar_row W gt _ 171 _ (0, 0) _ hg Tryz.underlying171 rfl infoTx
    have e2 := run_loadVar_row W' gt _ 171 _ (0, 0) _ ((hb.block gt t.lt).trans hg) Tryz.underlying171 rfl infoTx
    rw [hld] at e1
    injection e1 with e1 _
    rw [e2, ← e1])
  have hh8 : 8 ≤ n - 2 - r := by omega
  have CW : Hid (∀ (W : World) (k : Nat) (M : Nat → Prop) (A : Option Addr) (l : List UInt8), k ≤ 3 → UpB Z w0 W g gd gp n p j (fun k => k = gt ∨ M k) → TO W gt g (T - 1) (n - 2 - r) k (fmtW (n - 2 - r) k) M → HasB W W.heap.size A 512 l → l.length = 512 →
      Calls Tryz.prog 90 #[.pointer (some ⟨gt, 0, none⟩), .int .i64 (k : Int), .slice A 512 512] W fun en W' => en = .returned (.int .i64 0) ∧ ∃ M', TO W' gt g (T - 1) (n - 2 - r) (k + 1) ((fmtW (n - 2 - r) k).set k (strB l)) M' ∧ UpB Z w0 W' g gd gp n p j (fun k => k = gt ∨ M' k)) := Lib.hid (fun W k M A l hk U t hd hl => by
    refine (write_up U s hV t (.inl rfl) (fun k hk => .inr hk) k (by omega) A 512 l hd hl (Nat.le_refl _) (.inr (by have := fmtW_cnt (n - 2 - r) (by omega) k (by omega); omega)) (by omega)).mono ?_
    rintro en W' ⟨he, M', t1, u1, _, _⟩
    exact ⟨he, M', t1, u1.less (fun q hq => hq.elim (fun h => .inl (.inl h)) .inr)⟩)
  obtain ⟨h, hh⟩ : ∃ h, n - 2 - r = h := ⟨_, rfl⟩
  rw [hh] at t CW hh8 ⊢
  have UU := Lib.hid U
  have TT := Lib.hid t
  have IT : Hid ((Tryz.prog.info? 171).map (·.size) = some cs.size) := Lib.hid (by rw [hcs]; exact infoTx)
  clear U s t hcs hc1 hld hh b1 b2 b3 b4 b5 b6 b7 b8 b9 b10 b11 b12
  go_enter Tryz.func79, Tryz.ntmps79
  go_upto_region 4 with (first
    | (go_at_call 156; refine CF.out.mono ?_; rintro e w1 ⟨rfl, b1⟩
       have B1 := Lib.hid b1
       have LD1 := Lib.hid (LD.out _ b1)
       clear b1)
    | (refine wpList_load_rowG rfl 171 (.tmp 10) rfl gt rfl (.agg cs) LD1.out ?_)
    | (refine wpList_store_row rfl 171 (.tmp 3) (.tmp 11) rfl w1.heap.size cs rfl rfl 171 _ (heap_alloc_new w1 _) IT.out (by rw [CS.out]; rfl) (Array.all_eq_true_iff_forall_mem.2 (fun v hv => C1.out v (Array.mem_toList_iff.2 hv))) ?_))
  generalize hW3 : World.setRow _ _ _ = w3
  have b3 : Below W.heap.size W w3 := B1.out.trans ((by rw [← hW3]; exact below_setRow ((Below.refl w1.heap.size w1).alloc (Nat.le_refl _) _) (Nat.le_refl _) _ : Below w1.heap.size w1 w3).mono B1.out.size)
  have U3 := Lib.hid (UU.out.below b3)
  have T3 := Lib.hid (TT.out.below b3)
  clear hW3 b3
  go_wp2_with fail
  go_loopw [12] (fun x wr => ∃ (k : Nat) (M : Nat → Prop), k ≤ 4 ∧ x = .int .i64 (k : Int) ∧ TO wr gt g (T - 1) h k (fmtW h k) M ∧ UpB Z w0 wr g gd gp n p j (fun k => k = gt ∨ M k)) (fun x _ => 4 - (intOf x).toNat)
  case atStart => exact ⟨0, M, by omega, rfl, T3.out, U3.out⟩
  case round =>
    obtain ⟨k, M, hk, rfl, qt, qu⟩ := hrel
    obtain ⟨W4, rfl⟩ : ∃ W, W = wr := ⟨_, rfl⟩
    have QT := Lib.hid qt
    have QU := Lib.hid qu
    clear qt qu
    by_cases hlt : k < 4
    · have hb5 : Below W4.heap.size W4 (W4.alloc (.cells (cellsB zsec).toArray 160)) := (Below.refl _ _).alloc (Nat.le_refl _) _
      have bw5 := Bw.new W4 zsec 160
      obtain ⟨W5, hW5⟩ : ∃ W5, W4.alloc (.cells (cellsB zsec).toArray 160) = W5 := ⟨_, rfl⟩
      rw [hW5] at hb5 bw5
      have HW5 := Lib.hid hW5
      have FW : Hid (fmtW h (k + 1) = (fmtW h k).set k (strB (fmtS k))) := Lib.hid rfl
      by_cases h1 : k = 1
      · subst h1
        have hc0 : W5.cell? ⟨W4.heap.size, 0, none⟩ = some (.int .u8 0) := bw5.cell (i := 0) (x := 0) (by decide +kernel)
        have hf0 := bw5.frozen 0
        have bw6 := bw5.set_ (i := 0) (x := 15) (y := 15) rfl
        have hb6 : Below W4.heap.size W4 (W5.setCell ⟨W4.heap.size, 0, none⟩ (.int .u8 15)) := hb5.setCell (p := ⟨W4.heap.size, 0, none⟩) (Nat.le_refl _) _
        have CC := Lib.hid (CW.out _ 1 M (some ⟨W4.heap.size, 0, none⟩) (fmtS 1) (by omega) (QU.out.below hb6) (QT.out.below hb6) (bw6.has (by simp [zsec_len])) (fmtS_len 1))
        clear bw5 hb5 bw6 hb6 hW5
        go_upto_region 8 with fail
        rw [zc57, HW5.out]
        go_wp2_with (first
          | (go_at_call 90; refine CC.out.mono ?_; rintro e w6 ⟨rfl, M6, t6, u6⟩
             have T6 := Lib.hid t6
             have U6 := Lib.hid u6
             clear t6 u6))
        go_roundw
        case rel => exact ⟨1 + 1, M6, by omega, rfl, by rw [FW.out]; exact T6.out, U6.out⟩
        case measure => simp [intOf]
      · have CC := Lib.hid (CW.out _ k M (some ⟨W4.heap.size, 0, none⟩) (fmtS k) (by omega) (QU.out.below hb5) (QT.out.below hb5) (by unfold fmtS; rw [if_neg h1]; exact bw5.has zsec_len.symm) (fmtS_len k))
        have h1' : ¬ (k : Int) = 1 := by omega
        clear bw5 hb5 hW5
        go_upto_region 8 with fail
        rw [zc57, HW5.out]
        go_wp2_with (first
          | (go_at_call 90; refine CC.out.mono ?_; rintro e w6 ⟨rfl, M6, t6, u6⟩
             have T6 := Lib.hid t6
             have U6 := Lib.hid u6
             clear t6 u6))
        go_roundw
        case rel => exact ⟨k + 1, M6, by omega, by go_num, by rw [FW.out]; exact T6.out, U6.out⟩
        case measure => simp [intOf]; omega
    · obtain rfl : k = 4 := by omega
      go_wp2_with fail
      go_ret
      exact ⟨rfl, M, QT.out, QU.out⟩
end

theorem stT : StX (fun _ _ => True) := fun _ _ _ _ => trivial
/-! ### Begun -/
def B0 : List UInt8 := fmtS 1
theorem B0_len : B0.length = 512 := fmtS_len 1
theorem B0_tk (x : Nat) : tkB B0 x = decide (x < 4) := by
  unfold tkB
  by_cases h4 : x < 4
  · rw [decide_eq_true h4]; rfl
  · rw [decide_eq_false h4, Bool.false_or]
    unfold bitB
    by_cases h8 : x < 8
    · have e : B0.getD (x / 8) 0 = 15 := by
        rw [show x / 8 = 0 by omega]
        unfold B0 fmtS
        rw [if_pos rfl, List.getD, List.getElem?_set, if_pos rfl, if_pos (by rw [zsec_len]; omega)]; rfl
      rw [e]
      have all : ∀ j : Fin 8, 4 ≤ j.val → tbit 15 j.val = false := by decide
      have := all ⟨x % 8, Nat.mod_lt _ (by omega)⟩ (by show 4 ≤ x % 8; omega)
      exact this
    · have e : B0.getD (x / 8) 0 = 0 := by
        unfold B0 fmtS
        rw [if_pos rfl, List.getD, List.getElem?_set, if_neg (by omega)]
        by_cases hx : x / 8 < 512
        · have : zsec[x / 8]? = some 0 := by unfold zsec zer; rw [List.getElem?_replicate, if_pos hx]
          rw [this]; rfl
        · rw [List.getElem?_eq_none (by rw [zsec_len]; omega)]; rfl
      rw [e]
      unfold tbit
      simp
/-- What Begun hands back. -/
def RetBg (Z : DK) (w0 : World) (n : Nat) (en : Ending) (W' : World) : Prop :=
  ∃ g gd gp gt, en = .returned (.tuple #[.pointer (some ⟨g, 0, none⟩), .pointer (some ⟨gt, 0, none⟩)]) ∧ SpU (fun _ _ => True) Z w0 W' g gd gp gt n (3 * n + 45) 16 0 B0 (fun _ => False)
set_option maxRecDepth 100000 in
set_option maxHeartbeats 2000000 in
theorem begun_sp (Z : DK) (w0 w : World) (hb0 : Below w0.heap.size w0 w) (n : Nat) (h1 : 64 ≤ n) (h2 : n ≤ 1000) : Calls Tryz.prog 16 #[.int .i64 (n : Int), .int .i64 16] w (RetBg Z w0 n) := by
  have CM := Lib.hid (made_any Z w0 w hb0 n 16 (by omega) (by omega) (by omega) (by omega) (by omega))
  go_enter Tryz.func16, Tryz.ntmps16
  go_upto_region 2 with (first
    | (go_at_call 31; refine CM.out.mono ?_; rintro e w1 ⟨gd, g, gp, p, j, rfl, u1, s1, _⟩
       have CB := Lib.hid (begin_up u1 s1 (by omega))
       have S1 := Lib.hid s1
       clear u1 s1))
  go_upto_region 3 with (first
    | (go_at_call 27; refine CB.out.mono ?_; rintro e w2 ⟨gt, gm, rfl, t2, u2, _, _, _⟩
       have CF := Lib.hid (format8_any (u2.less (fun k hk => .inr hk)) S1.out t2 (by omega))
       clear t2 u2))
  clear CB CM
  obtain ⟨h, hh⟩ : ∃ h, n - 2 - 16 = h := ⟨_, rfl⟩
  have HH := Lib.hid hh
  have hh4 : 4 ≤ h := by omega
  go_upto_region 5 with (first
    | (go_at_call 79; refine CF.out.mono ?_; rintro e w3 ⟨rfl, M3, t3, u3⟩
       have hc := fmtW_cnt (n - 2 - 16) (by omega) 4 (Nat.le_refl _)
       have CC := Lib.hid (commit_tx u3 S1.out (by omega) t3 (.inl rfl) (by omega) (by omega) (by omega))
       clear t3 u3 hc)
    | (go_at_call 26; refine CC.out.mono ?_; rintro e w4 ⟨rfl, _, ⟨p4, j4, T4, v4, u4, s4, _, _⟩, _⟩
       have CB4 := Lib.hid (begin_up u4 s4 (by omega))
       have S4 := Lib.hid s4
       clear u4 s4))
  go_wp2_with (first
    | (go_at_call 27; refine CB4.out.mono ?_; rintro e w5 ⟨gt5, gm5, rfl, t5, u5, _, _, _⟩
       have T5 := Lib.hid t5
       have U5 := Lib.hid (u5.less (B' := fun k => (k = gt5 ∨ k = gm5) ∨ False) (fun k hk => hk.elim (fun h => .inr h) False.elim))
       clear t5 u5))
  go_ret2
  refine ⟨g, gd, gp, gt5, rfl, p4, j4, T4, v4, _, _, _, U5.out, S4.out.more (by omega), T5.out, ?_, B0_len, .inr (by rw [frK_rep]; omega), fun _ h => h.elim, trivial⟩
  unfold txH
  rw [if_neg (by rw [rep_emp]; exact fun h => h rfl)]
  rw [if_pos (by rw [fmtW_one _ (by omega)]; exact strB_ne (fmtS_len 1)), fmtW_one _ (by omega)]
  exact lst_strB _
theorem SpU.le {Z : DK} {w0 W : World} {g gd gp gt n V V' r q : Nat} {b : List UInt8} {E : Nat → Prop} (a : SpU (fun _ _ => True) Z w0 W g gd gp gt n V r q b E) (h : V ≤ V') : SpU (fun _ _ => True) Z w0 W g gd gp gt n V' r q b E := by
  obtain ⟨p, j, T, u, H, ws, M, U, s, x⟩ := a
  exact ⟨p, j, T, u, H, ws, M, U, s.more h, x⟩
/-! ### begun -/
theorem gap_at {b : List UInt8} {h k s N : Nat} (hb : ∀ x, tkB b x = decide (x < N)) (hk : 1 ≤ k) (hs : s = N) (hh : s + k ≤ h) : IsGap b h k s := by
  subst hs
  exact ⟨hh, fun j hj => by rw [hb]; exact decide_eq_false (by omega), fun s' hs' => ⟨0, by omega, by rw [hb]; exact decide_eq_true (by omega)⟩⟩
set_option maxRecDepth 100000 in
set_option maxHeartbeats 2000000 in
theorem begun8_any (Z : DK) (w : World) : Calls Tryz.prog 14 #[] w (RetTrue w) := by
  have CB := Lib.hid (begun_sp Z w w (Below.refl _ _) 64 (by omega) (by omega))
  have b1 : ∀ x, tkB (flipL B0 4 2) x = decide (x < 6) := fun x => by
    rw [tk_take (h := 46) B0_len (by omega) (by omega) (gap_at B0_tk (by omega) rfl (by omega)), B0_tk, Bool.eq_iff_iff]; simp; omega
  have b2 : ∀ x, tkB (flipL (flipL B0 4 2) 6 1) x = decide (x < 7) := fun x => by
    rw [tk_take (h := 46) (by rw [flipL_len]; exact B0_len) (by omega) (by omega) (gap_at b1 (by omega) rfl (by omega)), b1, Bool.eq_iff_iff]; simp; omega
  have x3 : IsExt (flipL (flipL B0 4 2) 6 1) 46 ((4 : Nat) : Int) ((2 : Nat) : Int) := ⟨by omega, by omega, fun j hj => by rw [b2]; exact decide_eq_true (by rw [Int.toNat_natCast]; omega)⟩
  have b3 : ∀ x, tkB (flipL (flipL (flipL B0 4 2) 6 1) 4 2) x = (decide (x < 7) && !(decide (4 ≤ x) && decide (x < 4 + 2))) := fun x => by
    rw [tk_free (h := 46) (by rw [flipL_len, flipL_len]; exact B0_len) (by omega) x3, b2]
  have g1 : IsGap B0 46 2 4 := gap_at B0_tk (by omega) rfl (by omega)
  have g2 : IsGap (flipL B0 4 2) 46 1 6 := gap_at b1 (by omega) rfl (by omega)
  have g4 : IsGap (flipL (flipL (flipL B0 4 2) 6 1) 4 2) 46 3 7 := by
    refine ⟨by omega, fun j hj => by rw [b3]; simp; omega, fun s' hs' => ?_⟩
    by_cases h4 : s' < 4
    · exact ⟨0, by omega, by rw [b3]; simp; omega⟩
    · exact ⟨6 - s', by omega, by rw [b3]; simp; omega⟩
  have G1 := Lib.hid g1
  have G2 := Lib.hid g2
  have G4 := Lib.hid g4
  have X3 := Lib.hid x3
  clear b1 b2 b3 g1 g2 g4 x3
  go_enter Tryz.func14, Tryz.ntmps14
  go_wp2_with (first
    | (go_at_call 16; refine CB.out.mono ?_; rintro e w1 ⟨g, gd, gp, gt, rfl, s1⟩
       have C1 := Lib.hid (take_yes stT s1 (by omega) (by omega) 2 4 (by omega) (by omega) G1.out)
       clear s1)
    | (go_at_call_of 19 (Value.int .i64 2); refine C1.out.mono ?_; rintro e w2 ⟨rfl, s2, _⟩
       have C2 := Lib.hid (take_yes stT s2 (by omega) (by omega) 1 6 (by omega) (by omega) G2.out)
       clear s2)
    | (go_at_call_of 19 (Value.int .i64 1); refine C2.out.mono ?_; rintro e w3 ⟨rfl, s3, _⟩
       have C3 := Lib.hid (free_yes stT s3 (by omega) (by omega) 4 2 (by omega) (by omega) X3.out)
       clear s3)
    | (go_at_call 21; refine C3.out.mono ?_; rintro e w4 ⟨rfl, s4, _⟩
       have C4 := Lib.hid (take_yes stT s4 (by omega) (by omega) 3 7 (by omega) (by omega) G4.out)
       clear s4)
    | (go_at_call_of 19 (Value.int .i64 3); refine C4.out.mono ?_; rintro e w5 ⟨rfl, s5, _⟩
       have BL := Lib.hid s5.up
       clear s5))
  go_ret
  exact ⟨rfl, BL.out⟩
end Go.Proofs.YtjpicaofgiagdaaGreat
