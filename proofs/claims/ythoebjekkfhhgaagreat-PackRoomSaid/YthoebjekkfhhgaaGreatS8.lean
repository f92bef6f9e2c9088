/-
  Own work.
-/
import Derived.Test.YthoebjekkfhhgaaGreatCp9
import Derived.Test.YthoebjekkfhhgaaGreatSb
import Derived.Test.YthoebjekkfhhgaaGreatT8
import Derived.Test.YthoebjekkfhhgaaGreatT9
import Derived.Test.YthoebjekkfhhgaaGreatT7
import Derived.Test.YthoebjekkfhhgaaGreatG7
set_option linter.unusedVariables false
set_option linter.unusedSimpArgs false
set_option maxRecDepth 100000
set_option maxHeartbeats 8000000
namespace Go.Proofs.YthoebjekkfhhgaaGreat
open Go.RowKit Go.Maps
theorem infoBits : (Tryz.prog.info? 117).map (·.size) = some 512 := by kernel_rfl
theorem HasB.load_bits {w : World} {B g o n : Nat} {l : List UInt8} (h : HasB w B (some ⟨g, o, none⟩) n l) (hl : l.length = 512) : (loadVar 117 ⟨g, o, none⟩).run Tryz.prog w = .ok (.agg (cellsB l).toArray) w := by
 have hn := h.len
 obtain ⟨g', o', e, _, hc⟩ := h.2 (by omega)
 simp only [Option.some.injEq, Addr.mk.injEq, and_true] at e
 obtain ⟨rfl, rfl⟩ := e
 have hc' : (loadCells ⟨g, o, none⟩ (cellsB l).length).run Tryz.prog w = .ok (cellsB l).toArray w :=
  run_loadCells_list (P := Tryz.prog) w ⟨g, o, none⟩ (cellsB l) (fun j v hv => by
   obtain ⟨b, hb, rfl⟩ := cellsB_at hv
   rw [Addr.add_lit]
   exact hc j b hb)
 rw [cellsB_length, hl] at hc'
 have hi := infoBits
 cases hq : Tryz.prog.info? 117 with
 | none => simp [hq] at hi
 | some i =>
   have hs : i.size = 512 := by simpa [hq] using hi
   have hagg : (isAgg 117).run Tryz.prog w = .ok true w := by
    unfold isAgg
    rw [Sem.run_bind, run_underlying Tryz.underlying117 w]
    rfl
   simp [loadVar, Sem.run_bind, hagg, sizeOf, typeInfo, hq, hs, hc']
theorem built_bm0 (parts : List (Nat × Value)) : Tryz.prog.built 119 parts = Instr.fill (#[(0, 512), (512, 1)][·]?) (cellsB zsec ++ [Value.int .i64 0]).toArray parts := by kernel_rfl
theorem built_bm (b : List UInt8) (hb : b.length = 512) (h : Int) : Tryz.prog.built 119 [(0, .agg (cellsB b).toArray), (1, .int .i64 h)] = some (cellsB b ++ [Value.int .i64 h]).toArray := by
 have l0 : (cellsB zsec).length = 512 := by rw [cellsB_length]; exact zsec_len
 have lb : (cellsB b).length = 512 := by rw [cellsB_length]; exact hb
 rw [built_bm0, fill_step _ _ 0 _ _ 0 512 rfl (by show (cellsB b).toArray.size = 512; rw [cellsB_size]; exact hb) (by simp [l0])]
 have e1 : ((cellsB zsec ++ [Value.int .i64 0]).toArray.toList.take 0 ++ (Value.agg (cellsB b).toArray).cells.toList ++ (cellsB zsec ++ [Value.int .i64 0]).toArray.toList.drop (0 + 512)) = cellsB b ++ [Value.int .i64 0] := by
  show [] ++ cellsB b ++ (cellsB zsec ++ [Value.int .i64 0]).drop 512 = _
  rw [List.nil_append, List.drop_left' l0]
 rw [e1, fill_step _ _ 1 _ _ 512 1 rfl rfl (by simp [lb])]
 have e2 : ((cellsB b ++ [Value.int .i64 0]).toArray.toList.take 512 ++ (Value.int .i64 h).cells.toList ++ (cellsB b ++ [Value.int .i64 0]).toArray.toList.drop (512 + 1)) = cellsB b ++ [Value.int .i64 h] := by
  show (cellsB b ++ [Value.int .i64 0]).take 512 ++ [Value.int .i64 h] ++ (cellsB b ++ [Value.int .i64 0]).drop (512 + 1) = _
  rw [List.take_left' lb, List.drop_of_length_le (by simp [lb]), List.append_nil]
 rw [e2]
 rfl
theorem yieldsIf_build2 {P : Program} {ops : Array Oper} {o : Oper} {a : Act} {S : World -> Prop} (hw : Region.wanted o (yielded ops a.tmps) = true) (t : TypeId) (i j : Nat) (x y : Operand) (ho : o.op = .build t #[(i, x), (j, y)])
 (u v : Value) (hx : a.eval x = u) (hy : a.eval y = v) (cells : Array Value) (hf : P.built t [(i, u), (j, v)] = some cells) : YieldsIf P ops S o (.agg cells) a := by
 refine Or.inl ⟨hw, fun w hS => ?_⟩
 unfold execOp
 simp only [ho, Sem.run_bind, List.map_toArray, List.map_cons, List.map_nil, hx, hy, run_build w t _ _ hf, Result.andThen_ok, Sem.run_pure]
theorem yieldsIf_arr2 {P : Program} {ops : Array Oper} {o : Oper} {a : Act} {S : World -> Prop} (hw : Region.wanted o (yielded ops a.tmps) = true) (arr el : TypeId) (n : Nat) (x : Operand) (ho : o.op = .sliceToArrayPointer arr x)
 (hu : P.underlying arr = some (.array n el)) (A : Option Addr) (len cap : Nat) (hx : a.eval x = .slice A len cap) (hn : n <= len) : YieldsIf P ops S o (.pointer A) a := by
 refine Or.inl ⟨hw, fun w hS => ?_⟩
 have hr : (Instr.arrayAt arr (.slice A len cap)).run P w = .ok (.pointer A) w := by
  unfold Instr.arrayAt
  simp [run_underlying hu, Nat.not_lt.2 hn]
 unfold execOp
 simp only [ho, hx, Sem.run_bind, Sem.run_pure, Result.andThen_ok, hr]
def SpU (X : (Nat -> List UInt8) -> List ByteArray -> Prop) (Z : DK) (w0 W : World) (g gd gp gt n V r q : Nat) (b : List UInt8) (E : Nat -> Prop) : Prop :=
 ∃ (p : Pt) (j : JM) (T u : Nat) (H : Nat -> List UInt8) (ws : List ByteArray) (M : Nat -> Prop), UpB Z w0 W g gd gp n p j (fun k => (k = gt \/ M k) \/ E k) /\ SJ p n V j T u r H /\ TO W gt g (T - 1) (n - 2 - r) q ws M /\
   txH H ws 1 = b /\ b.length = 512 /\ ((ws.getD 1 emp).size ≠ 0 \/ (frK ws (n - 2 - r)).length < 40) /\ (∀ k, E k -> k ≠ gt /\ ¬ M k) /\ X H ws
section
variable {X : (Nat -> List UInt8) -> List ByteArray -> Prop} {Z : DK} {w0 W W' : World} {g gd gp gt n V r q : Nat} {b : List UInt8} {E : Nat -> Prop}
theorem SpU.up (a : SpU X Z w0 W g gd gp gt n V r q b E) : Below w0.heap.size w0 W := by
 obtain ⟨p, j, T, u, H, ws, M, U, _⟩ := a
 exact U.up.bel
theorem SpU.sz (a : SpU X Z w0 W g gd gp gt n V r q b E) (hV : V <= 1073000000) : 8 <= n - 2 - r /\ n - 2 - r <= 4096 /\ b.length = 512 := by
 obtain ⟨p, j, T, u, H, ws, M, U, s, t, hb, hl, _⟩ := a
 obtain ⟨b1, b2, b3, b4, b5, b6, b7, b8, b9, b10, b11, b12⟩ := s.homes
 exact ⟨by omega, t.wl.2.2, hl⟩
theorem SpU.lt (a : SpU X Z w0 W g gd gp gt n V r q b E) : ∀ k, E k -> w0.heap.size <= k /\ k < W.heap.size := by
 obtain ⟨p, j, T, u, H, ws, M, U, _⟩ := a
 exact fun k hk => U.lt k (.inr hk)
theorem SpU.below (a : SpU X Z w0 W g gd gp gt n V r q b E) (hb : Below W.heap.size W W') : SpU X Z w0 W' g gd gp gt n V r q b E := by
 obtain ⟨p, j, T, u, H, ws, M, U, s, t, x⟩ := a
 exact ⟨p, j, T, u, H, ws, M, U.below hb, s, t.below hb, x⟩
theorem SpU.less {E' : Nat -> Prop} (a : SpU X Z w0 W g gd gp gt n V r q b E) (h : ∀ k, E' k -> E k) : SpU X Z w0 W g gd gp gt n V r q b E' := by
 obtain ⟨p, j, T, u, H, ws, M, U, s, t, x1, x2, x3, x4, x5⟩ := a
 exact ⟨p, j, T, u, H, ws, M, U.less (fun k hk => hk.imp id (h k)), s, t, x1, x2, x3, fun k hk => x4 k (h k hk), x5⟩
theorem SpU.add {E' : Nat -> Prop} (a : SpU X Z w0 W g gd gp gt n V r q b E) (ho : Only (fun k => E k \/ W.heap.size <= k) W W') (hE : ∀ k, E' k -> E k \/ (W.heap.size <= k /\ k < W'.heap.size)) : SpU X Z w0 W' g gd gp gt n V r q b E' := by
 obtain ⟨p, j, T, u, H, ws, M, U, s, t, x1, x2, x3, x4, x5⟩ := a
 have hlt := t.lt
 have hml := t.ml
 refine ⟨p, j, T, u, H, ws, M, U.own (ho.mono (fun k _ hk => hk.imp .inr id)) (fun k hk => ?_), s, t.only ho (fun h => h.elim (fun h => (x4 gt h).1 rfl) (fun h => by omega)) (fun k hk h => h.elim (fun h => (x4 k h).2 hk) (fun h => by have := hml k hk; omega)), x1, x2, x3, fun k hk => ?_, x5⟩
 · rcases hk with hk | hk
   · exact .inl (.inl hk)
   · exact (hE k hk).imp .inr id
 · rcases hE k hk with h | h
   · exact x4 k h
   · exact ⟨by omega, fun hM => by have := hml k hM; omega⟩
theorem SpU.see (a : SpU X Z w0 W g gd gp gt n V r q b E) (hV : V <= 1073000000) :
 Calls Tryz.prog 91 #[.pointer (some ⟨gt, 0, none⟩), .int .i64 ((1 : Nat) : Int)] W fun en W' => ∃ A m c, en = .returned (.tuple #[.slice A m c, .int .i64 0]) /\ HasB W' W'.heap.size A m b /\ SpU X Z w0 W' g gd gp gt n V r q b E /\ Only (fun k => ¬ E k) W W' := by
 have sz := a.sz hV
 obtain ⟨p, j, T, u, H, ws, M, U, s, t, x1, x2, x3, x4, x5⟩ := a
 by_cases h1 : (ws.getD 1 emp).size = 0
 · refine (tread_up U s hV t 1 (by omega) h1).mono ?_
   rintro en W' ⟨A, m, c, he, hx, u2, y⟩
   have e : H 1 = b := by rw [<- x1]; unfold txH; rw [if_neg (by rw [h1]; exact fun h => h rfl)]
   rw [e] at hx
   refine ⟨A, m, c, he, hx.has, ⟨p, j, T, u, H, ws, M, u2.less (fun k hk => .inl hk), s, t.only y (fun h => h (.inl (.inl rfl))) (fun k hk h => h (.inl (.inr hk))), x1, x2, x3, x4, x5⟩, y.mono (fun k _ hk h => hk (.inr h))⟩
 · refine (tread_own t 1 (by omega) h1).mono ?_
   rintro en W' ⟨A, m, c, he, hx, hb⟩
   have e : lst (ws.getD 1 emp) = b := by rw [<- x1]; unfold txH; rw [if_pos h1]
   rw [e] at hx
   exact ⟨A, m, c, he, hx.has, ⟨p, j, T, u, H, ws, M, U.below hb, s, t.below hb, x1, x2, x3, x4, x5⟩, Only.of_below hb (Nat.le_refl _)⟩
def StX (X : (Nat -> List UInt8) -> List ByteArray -> Prop) : Prop := ∀ H ws l, X H ws -> X H (ws.set 1 (strB l))
theorem SpU.put (hX : StX X) (a : SpU X Z w0 W g gd gp gt n V r q b E) (hV : V <= 1073000000) (hq : q < 1073741824) (A : Option Addr) (c : Nat) (l : List UInt8) (hd : HasB W W.heap.size A 512 l) (hl : l.length = 512) (hc : 512 <= c) :
 Calls Tryz.prog 71 #[.pointer (some ⟨gt, 0, none⟩), .int .i64 ((1 : Nat) : Int), .slice A 512 c] W fun en W' => en = .returned (.int .i64 0) /\ SpU X Z w0 W' g gd gp gt n V r (q + 1) l E /\ Only (fun k => ¬ E k) W W' := by
 have sz := a.sz hV
 obtain ⟨p, j, T, u, H, ws, M, U, s, t, x1, x2, x3, x4, x5⟩ := a
 have hlt := U.lt
 refine (write_up U s hV t (.inl (.inl rfl)) (fun k hk => .inl (.inr hk)) 1 (by omega) A c l hd hl hc x3 hq).mono ?_
 rintro en W' ⟨he, M', t2, u2, hM, y⟩
 have wl := t.wl
 have hs : (strB l).size ≠ 0 := by
  rw [show (strB l).size = l.length from by simp [strB, ByteArray.size]]; omega
 have e : (ws.set 1 (strB l)).getD 1 emp = strB l := by rw [List.getD, List.getElem?_set, if_pos rfl, if_pos (by omega)]; rfl
 refine ⟨he, ⟨p, j, T, u, H, _, M', u2.less (fun k hk => ?_), s, t2, ?_, hl, .inl (by rw [e]; exact hs), fun k hk => ⟨(x4 k hk).1, fun h => ?_⟩, hX _ _ _ x5⟩, y.mono (fun k _ hk h => (x4 k h).1 hk)⟩
 · rcases hk with (hk | hk) | hk
   · exact .inl (.inl (.inl hk))
   · exact .inr hk
   · exact .inl (.inr hk)
 · unfold txH
   rw [e, if_pos hs]
   exact lst_strB l
 · rcases hM k h with h | h
   · exact (x4 k hk).2 h
   · have := (hlt k (.inr hk)).2
     omega
theorem SpU.homesT (a : SpU X Z w0 W g gd gp gt n V r q b E) (hV : V <= 1073000000) : Calls Tryz.prog 92 #[.pointer (some ⟨gt, 0, none⟩)] W (RetV2 W (.int .i64 ((n - 2 - r : Nat) : Int))) := by
 obtain ⟨p, j, T, u, H, ws, M, U, s, t, _⟩ := a
 have := thomes_any t U (s.jok hV).2.1
 rwa [s.homes.1] at this
def RetLo (X : (Nat -> List UInt8) -> List ByteArray -> Prop) (Z : DK) (w0 W : World) (g gd gp gt n V r q : Nat) (b : List UInt8) (E : Nat -> Prop) (en : Ending) (W' : World) : Prop :=
 ∃ gm, en = .returned (.tuple #[.pointer (some ⟨gm, 0, none⟩), .int .i64 0]) /\ BM W' gm (n - 2 - r) b /\ SpU X Z w0 W' g gd gp gt n V r q b (fun k => E k \/ k = gm) /\ ¬ E gm /\ Only (fun k => ¬ E k) W W'
theorem load_any (a : SpU X Z w0 W g gd gp gt n V r q b E) (hV : V <= 1073000000) : Calls Tryz.prog 53 #[.pointer (some ⟨gt, 0, none⟩)] W (RetLo X Z w0 W g gd gp gt n V r q b E) := by
 have CS := lH (a.see hV)
 have hl := (a.sz hV).2.2
 have CH : Hid (∀ W, SpU X Z w0 W g gd gp gt n V r q b E -> Calls Tryz.prog 92 #[.pointer (some ⟨gt, 0, none⟩)] W (RetV2 W (.int .i64 ((n - 2 - r : Nat) : Int)))) := lH (fun W s => s.homesT hV)
 obtain ⟨h, hh⟩ : ∃ h, n - 2 - r = h := ⟨_, rfl⟩
 rw [hh] at CH
 have HH := lH hh
 have HL := lH hl
 have BB := lH (built_bm b hl (h : Int))
 clear a hh hl
 go_enter Tryz.func53, Tryz.ntmps53
 go_upto_region 4 with (first
  | (go_at_call 91; refine CS.out.mono ?_; rintro e w1 ⟨A1, m1, c1, rfl, hx1, s1, y1⟩
     have hm1 := hx1.len
     rw [HL.out] at hm1
     subst hm1
     obtain ⟨g1, o1, rfl, _, _⟩ := hx1.2 (by omega)
     have X1 := lH hx1
     have S1 := lH s1
     have Y1 := lH y1
     clear hx1 s1 y1))
 refine wp_region_held_drew (S := fun W => Below w1.heap.size w1 W) (by kernel_rfl) (Below.refl _ w1).drew (fun hHeld => ?_)
 refine tk9 (i := 0) (h := ?_)
 try simp only [aP,aN,aS,aZ,aC]
 refine tk9 (i := 1) (hy := (yieldsIf_arr2 (by rfl) 117 _ 512 (.tmp 14) rfl Tryz.underlying117 _ _ _ rfl (Nat.le_refl _))) (h := ?_)
 try simp only [aP,aN,aS,aZ,aC]
 refine tk9 (i := 2) (hy := (yieldsIf_loadG (by rfl) 117 (.tmp 15) rfl ⟨g1, o1, none⟩ rfl _ (fun W hW => (X1.out.on hW).load_bits HL.out))) (h := ?_)
 try simp only [aP,aN,aS,aZ,aC]
 refine tk9 (i := 3) (h := ?_)
 try simp only [aP,aN,aS,aZ,aC]
 refine rd9 (i := 4) (h := fun K hK => ?_)
 go_simp
 refine (CH.out _ (S1.out.below (Below.refl _ w1).drew)).mono ?_
 rintro en w6 ⟨rfl, b6⟩
 have S6 : Below w1.heap.size w1 w6 := ((Below.refl w1.heap.size w1).drew).trans (b6.mono (Nat.le_refl _))
 refine hK _ _ S6 (fun hH4 => ?_)
 clear hK K
 try simp only [aP,aN,aS,aZ,aC]
 refine tk9 (i := 5) (hy := (yieldsIf_build2 (by rfl) 119 0 1 (.tmp 16) (.tmp 18) rfl _ _ rfl rfl _ BB.out)) (h := ?_)
 try simp only [aP,aN,aS,aZ,aC]
 refine rd9 (i := 6) (h := fun K hK => ?_)
 go_simp
 generalize hWa : World.alloc _ _ = w7
 have b67 : Below w6.heap.size w6 w7 := by rw [<- hWa]; exact (Below.refl _ w6).alloc (Nat.le_refl _) _
 have S7 : Below w1.heap.size w1 w7 := S6.trans (b67.mono S6.size)
 have bm7 : BM w7 w6.heap.size h b := ⟨by rw [<- hWa]; exact heap_alloc_new w6 _, HL.out⟩
 clear hWa
 refine hK _ _ S7 (fun hH6 => ?_)
 clear hK K
 try simp only [aP,aN,aS,aZ,aC]
 refine tk9 (i := 7) (h := ?_)
 try simp only [aP,aN,aS,aZ,aC]
 refine tk9 (i := 8) (h := ?_)
 try simp only [aP,aN,aS,aZ,aC]
 refine wpAnyH_done (by kernel_rfl) ?_ _
 go_wp2_with fail
 go_ret2
 rw [<- HH.out] at bm7
 have s6 := S1.out.below S6
 refine ⟨w6.heap.size, rfl, bm7, s6.add (Only.of_below b67 (Nat.le_refl _)) (fun k hk => hk.imp id (fun h => by have := bm7.lt; omega)), fun h => by have := (s6.lt _ h).2; omega, Y1.out.trans' (Only.of_below S7 (Nat.le_refl _)) (fun _ _ h => h)⟩
theorem store_any (hX : StX X) {gm h : Nat} {b2 : List UInt8} (a : SpU X Z w0 W g gd gp gt n V r q b E) (hV : V <= 1073000000) (hq : q < 1073741824) (m : BM W gm h b2) :
 Calls Tryz.prog 57 #[.pointer (some ⟨gm, 0, none⟩), .pointer (some ⟨gt, 0, none⟩)] W fun en W' => en = .returned (.int .i64 0) /\ SpU X Z w0 W' g gd gp gt n V r (q + 1) b2 E /\ Only (fun k => ¬ E k) W W' := by
 have CW := lH (a.put hX hV hq (some ⟨gm, 0, none⟩) 512 b2 m.has m.2 (Nat.le_refl _))
 clear a m
 go_enter Tryz.func57, Tryz.ntmps57
 go_wp2_with (first
  | (go_at_call 71; refine CW.out.mono ?_; rintro e w1 ⟨rfl, s1, y1⟩
     have S1 := lH s1
     have Y1 := lH y1
     clear s1 y1))
 go_ret
 exact ⟨rfl, S1.out, Y1.out⟩
end
theorem IsGap.uniq {b : List UInt8} {h n s s' : Nat} (a : IsGap b h n s) (a' : IsGap b h n s') : s = s' := by
 rcases Nat.lt_trichotomy s s' with hl | hl | hl
 · obtain ⟨j, hj, ht⟩ := a'.2.2 s hl
   rw [a.2.1 j hj] at ht; cases ht
 · exact hl
 · obtain ⟨j, hj, ht⟩ := a.2.2 s' hl
   rw [a'.2.1 j hj] at ht; cases ht
theorem NoGap.gap {b : List UInt8} {h n s : Nat} (a : NoGap b h n) (g : IsGap b h n s) : False := by
 obtain ⟨j, hj, ht⟩ := a s g.1
 rw [g.2.1 j hj] at ht; cases ht
theorem least {P : Nat -> Prop} : ∀ N, (∃ s, s < N /\ P s) -> ∃ s, P s /\ ∀ s', s' < s -> ¬ P s'
 | 0, ⟨s, h, _⟩ => by omega
 | N + 1, ⟨s, h, hp⟩ => by
   by_cases hn : ∃ s, s < N /\ P s
   · exact least N hn
   · have : s = N := by
      by_cases h2 : s < N
      · exact absurd ⟨s, h2, hp⟩ hn
      · omega
     subst this
     exact ⟨s, hp, fun s' hs' hp' => hn ⟨s', hs', hp'⟩⟩
theorem gap_or (b : List UInt8) (h n : Nat) : NoGap b h n \/ ∃ s, IsGap b h n s := by
 by_cases hg : NoGap b h n
 · exact .inl hg
 · refine .inr ?_
   unfold NoGap at hg
   have : ∃ s, s + n <= h /\ ∀ j, j < n -> tkB b (s + j) = false := by
    refine Classical.byContradiction fun hc => hg fun s hs => Classical.byContradiction fun hn => hc ⟨s, hs, fun j hj => ?_⟩
    cases ht : tkB b (s + j) with
    | false => rfl
    | true => exact absurd ⟨j, hj, ht⟩ hn
   obtain ⟨s, hs⟩ := this
   obtain ⟨s1, h1, h2⟩ := least (P := fun s => s + n <= h /\ ∀ j, j < n -> tkB b (s + j) = false) (s + 1) ⟨s, by omega, hs⟩
   refine ⟨s1, h1.1, h1.2, fun s' hs' => Classical.byContradiction fun hn => h2 s' hs' ⟨by have := h1.1; omega, fun j hj => ?_⟩⟩
   cases ht : tkB b (s' + j) with
   | false => rfl
   | true => exact absurd ⟨j, hj, ht⟩ hn
theorem tk_flip (b : List UInt8) (hl : b.length = 512) (s n x : Nat) (h4 : 4 <= s) (hs : s + n <= 4096) : tkB (flipL b s n) x = if s <= x /\ x < s + n then !tkB b x else tkB b x := by
 unfold tkB
 rw [flipL_bit b s n x (by omega) (fun hn => by omega)]
 by_cases hx : s <= x /\ x < s + n
 · rw [if_pos hx, if_pos hx, decide_eq_false (by omega)]; simp
 · rw [if_neg hx, if_neg hx]
theorem IsGap.four {b : List UInt8} {h n s : Nat} (a : IsGap b h n s) (hn : 1 <= n) : 4 <= s := by
 have := a.2.1 0 (by omega)
 rw [Nat.add_zero] at this
 unfold tkB at this
 simp at this
 exact this.1
theorem tk_take {b : List UInt8} {h n s : Nat} (hl : b.length = 512) (hh : h <= 4096) (hn : 1 <= n) (a : IsGap b h n s) (x : Nat) : tkB (flipL b s n) x = (tkB b x || (decide (s <= x) && decide (x < s + n))) := by
 have h1 := a.1
 rw [tk_flip b hl s n x (a.four hn) (by omega)]
 by_cases hx : s <= x /\ x < s + n
 · have := a.2.1 (x - s) (by omega)
   rw [show s + (x - s) = x by omega] at this
   rw [if_pos hx, this, decide_eq_true hx.1, decide_eq_true hx.2]; rfl
 · rw [if_neg hx]
   by_cases h1 : s <= x
   · rw [decide_eq_false (p := x < s + n) (by omega)]; simp
   · rw [decide_eq_false h1]; simp
theorem tk_free {b : List UInt8} {h s n : Nat} (hl : b.length = 512) (hh : h <= 4096) (a : IsExt b h (s : Int) (n : Int)) (x : Nat) : tkB (flipL b s n) x = (tkB b x && !(decide (s <= x) && decide (x < s + n))) := by
 obtain ⟨h1, h2, h3⟩ := a
 rw [tk_flip b hl s n x (by omega) (by omega)]
 by_cases hx : s <= x /\ x < s + n
 · have := h3 (x - s) (by omega)
   rw [Int.toNat_natCast, show s + (x - s) = x by omega] at this
   rw [if_pos hx, this, decide_eq_true hx.1, decide_eq_true hx.2]; rfl
 · rw [if_neg hx]
   by_cases h1 : s <= x
   · rw [decide_eq_false (p := x < s + n) (by omega)]; simp
   · rw [decide_eq_false h1]; simp
def cntF (b : List UInt8) : Nat -> Nat
 | 0 => 0
 | i + 1 => cntF b i + if tkB b i then 0 else 1
theorem cntF_le (b : List UInt8) : ∀ i, cntF b i <= i
 | 0 => Nat.le_refl _
 | i + 1 => by unfold cntF; have := cntF_le b i; split <;> omega
section
variable {X : (Nat -> List UInt8) -> List ByteArray -> Prop} {Z : DK} {w0 W W' : World} {g gd gp gt n V r q : Nat} {b : List UInt8} {E : Nat -> Prop}
theorem BM.gap_yes {gm h : Nat} (a : BM W gm h b) (hh : h <= 4096) (k s : Nat) (h1 : 1 <= k) (h2 : k <= 64) (hg : IsGap b h k s) : Calls Tryz.prog 55 #[.pointer (some ⟨gm, 0, none⟩), .int .i64 (k : Int)] W fun e w' => e = .returned (.tuple #[.int .i64 (s : Int), .bool true]) /\ W = w' := by
 refine (gap_any a hh k h1 h2).mono ?_
 rintro e w' ⟨rfl, ⟨s', rfl, hs'⟩ | ⟨_, hn⟩⟩
 · rw [hg.uniq hs']; exact ⟨rfl, rfl⟩
 · exact (hn.gap hg).elim
theorem BM.gap_no {gm h : Nat} (a : BM W gm h b) (hh : h <= 4096) (k : Nat) (h1 : 1 <= k) (h2 : k <= 64) (hg : NoGap b h k) : Calls Tryz.prog 55 #[.pointer (some ⟨gm, 0, none⟩), .int .i64 (k : Int)] W fun e w' => e = .returned (.tuple #[.int .i64 0, .bool false]) /\ W = w' := by
 refine (gap_any a hh k h1 h2).mono ?_
 rintro e w' ⟨rfl, ⟨s', rfl, hs'⟩ | ⟨rfl, hn⟩⟩
 · exact (hg.gap hs').elim
 · exact ⟨rfl, rfl⟩
def RetSp (X : (Nat -> List UInt8) -> List ByteArray -> Prop) (Z : DK) (w0 W : World) (g gd gp gt n V r q : Nat) (b : List UInt8) (E : Nat -> Prop) (v : Value) (en : Ending) (W' : World) : Prop :=
 en = .returned v /\ SpU X Z w0 W' g gd gp gt n V r q b E /\ Only (fun k => ¬ E k) W W'
theorem take_yes (hX : StX X) (a : SpU X Z w0 W g gd gp gt n V r q b E) (hV : V <= 1073000000) (hq : q < 1073741824) (k s : Nat) (h1 : 1 <= k) (h2 : k <= 64) (hg : IsGap b (n - 2 - r) k s) :
 Calls Tryz.prog 25 #[.pointer (some ⟨gt, 0, none⟩), .int .i64 (k : Int)] W (RetSp X Z w0 W g gd gp gt n V r (q + 1) (flipL b s k) E (.tuple #[.int .i64 (s : Int), .int .i64 0])) := by
 have sz := a.sz hV
 have CL := lH (load_any a hV)
 have hs1 := hg.1
 have CM : Hid (∀ W, Calls Tryz.prog 54 #[.int .i64 (k : Int)] W fun e w' => e = .returned (.bool true) /\ W = w') := lH (fun W => may_any (k : Int) W (by omega) true (decide_eq_true (by omega)))
 obtain ⟨h, hh⟩ : ∃ h, n - 2 - r = h := ⟨_, rfl⟩
 have HH := lH hh
 have GG := lH hg
 have h4096 : h <= 4096 := by omega
 have hsk : s + k <= h := by omega
 clear a hg hs1 hh
 go_enter Tryz.func25, Tryz.ntmps25
 go_wp2_with (first
  | (go_at_call 53; refine CL.out.mono ?_; rintro e w1 ⟨gm, rfl, bm, s1, ne, y1⟩
     have g1 := GG.out
     rw [HH.out] at bm g1
     have CG := lH (bm.gap_yes h4096 k s h1 h2 g1)
     have CF := lH (flip_any bm s k (by omega))
     have S1 := lH s1
     have NE := lH ne
     have Y1 := lH y1
     clear bm s1 ne y1 g1)
  | (go_at_call 54; refine (CM.out _).mono ?_; rintro e w2 ⟨rfl, rfl⟩)
  | (go_at_call 55; refine CG.out.mono ?_; rintro e w2 ⟨rfl, rfl⟩)
  | (go_at_call 56; refine CF.out.mono ?_; rintro e w3 ⟨rfl, bm3, y3⟩
     have s3 := S1.out.add (E' := fun q => E q \/ q = gm) (y3.mono (fun q _ hq => .inl (.inr hq))) (fun q hq => .inl hq)
     have CS := lH (store_any hX s3 hV hq bm3)
     have Y3 := lH (Y1.out.trans (y3.mono (fun q _ hq hE => NE.out (by rw [<- hq]; exact hE))))
     clear bm3 s3 y3)
  | (go_at_call 57; refine CS.out.mono ?_; rintro e w4 ⟨rfl, s4, y4⟩
     have S4 := lH (s4.less (E' := E) (fun q hq => .inl hq))
     have Y4 := lH (Y3.out.trans (y4.mono (fun q _ hq hE => hq (.inl hE))))
     clear s4 y4))
 go_ret2
 exact ⟨rfl, S4.out, Y4.out⟩
theorem take_no (a : SpU X Z w0 W g gd gp gt n V r q b E) (hV : V <= 1073000000) (k : Nat) (h1 : 1 <= k) (h2 : k <= 64) (hg : NoGap b (n - 2 - r) k) :
 Calls Tryz.prog 25 #[.pointer (some ⟨gt, 0, none⟩), .int .i64 (k : Int)] W (RetSp X Z w0 W g gd gp gt n V r q b E (.tuple #[.int .i64 0, .int .i64 7])) := by
 have sz := a.sz hV
 have CL := lH (load_any a hV)
 have CM : Hid (∀ W, Calls Tryz.prog 54 #[.int .i64 (k : Int)] W fun e w' => e = .returned (.bool true) /\ W = w') := lH (fun W => may_any (k : Int) W (by omega) true (decide_eq_true (by omega)))
 have GG := lH hg
 have HS := lH sz.2.1
 clear a hg
 go_enter Tryz.func25, Tryz.ntmps25
 go_wp2_with (first
  | (go_at_call 53; refine CL.out.mono ?_; rintro e w1 ⟨gm, rfl, bm, s1, ne, y1⟩
     have CG := lH (bm.gap_no HS.out k h1 h2 GG.out)
     have S1 := lH (s1.less (E' := E) (fun q hq => .inl hq))
     have Y1 := lH y1
     clear bm s1 ne y1)
  | (go_at_call 54; refine (CM.out _).mono ?_; rintro e w2 ⟨rfl, rfl⟩)
  | (go_at_call 55; refine CG.out.mono ?_; rintro e w2 ⟨rfl, rfl⟩))
 go_ret2
 exact ⟨rfl, S1.out, Y1.out⟩
theorem free_yes (hX : StX X) (a : SpU X Z w0 W g gd gp gt n V r q b E) (hV : V <= 1073000000) (hq : q < 1073741824) (s k : Nat) (h1 : 1 <= k) (h2 : k <= 64) (hx : IsExt b (n - 2 - r) (s : Int) (k : Int)) :
 Calls Tryz.prog 94 #[.pointer (some ⟨gt, 0, none⟩), .int .i64 (s : Int), .int .i64 (k : Int)] W (RetSp X Z w0 W g gd gp gt n V r (q + 1) (flipL b s k) E (.int .i64 0)) := by
 have sz := a.sz hV
 have CL := lH (load_any a hV)
 have hs1 := hx.2.1
 have CM : Hid (∀ W, Calls Tryz.prog 54 #[.int .i64 (k : Int)] W fun e w' => e = .returned (.bool true) /\ W = w') := lH (fun W => may_any (k : Int) W (by omega) true (decide_eq_true (by omega)))
 have GG := lH hx
 have hsk : s + k <= 4096 := by omega
 have HS := lH sz.2.1
 clear a hx hs1
 go_enter Tryz.func94, Tryz.ntmps94
 go_wp2_with (first
  | (go_at_call 53; refine CL.out.mono ?_; rintro e w1 ⟨gm, rfl, bm, s1, ne, y1⟩
     have CG := lH (ext_any bm HS.out (s : Int) k (by omega) h1 h2 true ⟨fun _ => GG.out, fun _ => rfl⟩)
     have CF := lH (flip_any bm s k hsk)
     have S1 := lH s1
     have NE := lH ne
     have Y1 := lH y1
     clear bm s1 ne y1)
  | (go_at_call 54; refine (CM.out _).mono ?_; rintro e w2 ⟨rfl, rfl⟩)
  | (go_at_call 127; refine CG.out.mono ?_; rintro e w2 ⟨rfl, rfl⟩)
  | (go_at_call 56; refine CF.out.mono ?_; rintro e w3 ⟨rfl, bm3, y3⟩
     have s3 := S1.out.add (E' := fun q => E q \/ q = gm) (y3.mono (fun q _ hq => .inl (.inr hq))) (fun q hq => .inl hq)
     have CS := lH (store_any hX s3 hV hq bm3)
     have Y3 := lH (Y1.out.trans (y3.mono (fun q _ hq hE => NE.out (by rw [<- hq]; exact hE))))
     clear bm3 s3 y3)
  | (go_at_call 57; refine CS.out.mono ?_; rintro e w4 ⟨rfl, s4, y4⟩
     have S4 := lH (s4.less (E' := E) (fun q hq => .inl hq))
     have Y4 := lH (Y3.out.trans (y4.mono (fun q _ hq hE => hq (.inl hE))))
     clear s4 y4))
 go_ret
 exact ⟨rfl, S4.out, Y4.out⟩
theorem free_no (a : SpU X Z w0 W g gd gp gt n V r q b E) (hV : V <= 1073000000) (s : Int) (k : Nat) (hs : -9223372036854775808 <= s /\ s <= 9223372036854775807) (h1 : 1 <= k) (h2 : k <= 64) (hx : ¬ IsExt b (n - 2 - r) s (k : Int)) :
 Calls Tryz.prog 94 #[.pointer (some ⟨gt, 0, none⟩), .int .i64 s, .int .i64 (k : Int)] W (RetSp X Z w0 W g gd gp gt n V r q b E (.int .i64 1)) := by
 have sz := a.sz hV
 have CL := lH (load_any a hV)
 have CM : Hid (∀ W, Calls Tryz.prog 54 #[.int .i64 (k : Int)] W fun e w' => e = .returned (.bool true) /\ W = w') := lH (fun W => may_any (k : Int) W (by omega) true (decide_eq_true (by omega)))
 have GG := lH hx
 have HS := lH sz.2.1
 have HB := lH hs
 clear a hx hs
 go_enter Tryz.func94, Tryz.ntmps94
 go_wp2_with (first
  | (go_at_call 53; refine CL.out.mono ?_; rintro e w1 ⟨gm, rfl, bm, s1, ne, y1⟩
     have CG := lH (ext_any bm HS.out s k HB.out h1 h2 false ⟨fun h => (Bool.false_ne_true h).elim, fun h => absurd h GG.out⟩)
     have S1 := lH (s1.less (E' := E) (fun q hq => .inl hq))
     have Y1 := lH y1
     clear bm s1 ne y1)
  | (go_at_call 54; refine (CM.out _).mono ?_; rintro e w2 ⟨rfl, rfl⟩)
  | (go_at_call 127; refine CG.out.mono ?_; rintro e w2 ⟨rfl, rfl⟩))
 go_ret
 exact ⟨rfl, S1.out, Y1.out⟩
theorem left_sp (a : SpU X Z w0 W g gd gp gt n V r q b E) (hV : V <= 1073000000) :
 Calls Tryz.prog 27 #[.pointer (some ⟨gt, 0, none⟩)] W (RetSp X Z w0 W g gd gp gt n V r q b E (.tuple #[.int .i64 ((cntF b (n - 2 - r) : Nat) : Int), .int .i64 0])) := by
 have sz := a.sz hV
 have CL := lH (load_any a hV)
 obtain ⟨h, hh⟩ : ∃ h, n - 2 - r = h := ⟨_, rfl⟩
 have HH := lH hh
 have h4096 : h <= 4096 := by omega
 rw [hh]
 clear a hh sz
 go_enter Tryz.func27, Tryz.ntmps27
 go_upto_region 5 with (first
  | (go_at_call 53; refine CL.out.mono ?_; rintro e w1 ⟨gm, rfl, bm, s1, ne, y1⟩
     rw [HH.out] at bm
     have CH := bm.homes
     have BB := lH bm
     have S1 := lH (s1.less (E' := E) (fun q hq => .inl hq))
     have Y1 := lH y1
     clear bm s1 ne y1))
 go_wp2_with fail
 go_loop [6, 20] (fun x i => ∃ k : Nat, k <= h /\ i = .int .i64 (k : Int) /\ x = .int .i64 ((cntF b k : Nat) : Int)) (fun _ i => h - (intOf i).toNat)
 case atStart => exact ⟨0, Nat.zero_le _, rfl, rfl⟩
 case round =>
  obtain ⟨k, hk, rfl, rfl⟩ := hrel
  have hc := cntF_le b k
  by_cases hlt : k < h
  · have CT := taken_any BB.out k (by omega)
    obtain ⟨t, ht⟩ : ∃ t, tkB b k = t := ⟨_, rfl⟩
    rw [ht] at CT
    have CTH := lH CT
    have HS : Hid (cntF b (k + 1) = cntF b k + if t then 0 else 1) := lH (by rw [<- ht]; rfl)
    obtain ⟨C, hC⟩ : ∃ C, cntF b k = C := ⟨_, rfl⟩
    rw [hC] at HS hc ⊢
    clear CT ht hC
    cases t
    · go_wp2_with (first
       | (go_at_call 58; refine CTH.out.mono ?_; rintro e w2 ⟨rfl, rfl⟩))
      go_round
      case rel => exact ⟨k + 1, by omega, by go_num, by rw [HS.out]; simp only [Bool.false_eq_true, ite_false]; go_num⟩
      case measure => simp [intOf]; omega
    · go_wp2_with (first
       | (go_at_call 58; refine CTH.out.mono ?_; rintro e w2 ⟨rfl, rfl⟩))
      go_round
      case rel => exact ⟨k + 1, by omega, by go_num, by rw [HS.out]; simp⟩
      case measure => simp [intOf]; omega
  · obtain rfl : k = h := by omega
    go_wp2_with fail
    go_ret2
    exact ⟨rfl, S1.out, Y1.out⟩
end
theorem zc57 : Tryz.zeroCells117 = (cellsB zsec).toArray := by kernel_rfl
def fmtS (k : Nat) : List UInt8 := if k = 1 then zsec.set 0 15 else zsec
theorem fmtS_len (k : Nat) : (fmtS k).length = 512 := by unfold fmtS; split <;> simp [zsec_len]
def fmtW (h : Nat) : Nat -> List ByteArray
 | 0 => List.replicate h emp
 | k + 1 => (fmtW h k).set k (strB (fmtS k))
theorem fmtW_len (h : Nat) : ∀ k, (fmtW h k).length = h
 | 0 => by simp [fmtW]
 | k + 1 => by rw [fmtW, List.length_set, fmtW_len h k]
theorem strB_ne {l : List UInt8} (h : l.length = 512) : (strB l).size ≠ 0 := by
 rw [show (strB l).size = l.length from by simp [strB, ByteArray.size]]; omega
theorem fmtW_cnt (h : Nat) (hh : 4 <= h) : ∀ k, k <= 4 -> (frK (fmtW h k) h).length <= k
 | 0, _ => by rw [fmtW, frK_rep]; exact Nat.le_refl _
 | k + 1, hk => by
   have := fmtW_cnt h hh k (by omega)
   rw [fmtW, frK_cnt (by rw [fmtW_len]; omega) (strB_ne (fmtS_len k))]
   split <;> omega
section
variable {Z : DK} {w0 W W' : World} {g gd gp gt n V T u r : Nat} {p : Pt} {j : JM} {H : Nat -> List UInt8} {M B : Nat -> Prop} {ws : List ByteArray} {q : Nat}
theorem sfin_any (U : UpB Z w0 W g gd gp n p j B) (s : SJ p n V j T u r H) (t : TO W gt g (T - 1) (n - 2 - r) q ws M) (hV : V <= 1073000000) : Calls Tryz.prog 70 #[.pointer (some ⟨gt, 0, none⟩)] W (RetV2 W (.bool false)) := by
 have CH := thomes_any t U (s.jok hV).2.1
 obtain ⟨b1, b2, b3, b4, b5, b6, b7, b8, b9, b10, b11, b12⟩ := s.homes
 rw [b1] at CH
 obtain ⟨h, hh⟩ : ∃ h, n - 2 - r = h := ⟨_, rfl⟩
 rw [hh] at CH
 have h1 : 8 <= h := by omega
 have CHH := lH CH
 clear CH U s t
 go_enter Tryz.func70, Tryz.ntmps70
 go_wp2_with (first
  | (go_at_call 92; refine CHH.out.mono ?_; rintro e w1 ⟨rfl, b1⟩
     have B1 := lH b1
     clear b1))
 go_ret
 exact ⟨by first | rfl | (congr 2; simp; omega), B1.out⟩
theorem load_tx (t : TO W gt g T (n - 2 - r) q ws M) : ∃ cs : Array Value, cs.size = 3 /\ (∀ v ∈ cs.toList, v.oneCell' = true) /\ (loadVar 92 ⟨gt, 0, none⟩).run Tryz.prog W = .ok (.agg cs) W := by
 obtain ⟨gm, _, _, _, _, hg⟩ := t.cells
 refine ⟨_, rfl, ?_, run_loadVar_row W gt _ 92 _ (0, 0) _ hg Tryz.underlying92 rfl infoTx⟩
 intro v hv
 simp [txC] at hv
 rcases hv with rfl | rfl | rfl <;> rfl
theorem format8_any (U : UpB Z w0 W g gd gp n p j (fun k => k = gt \/ M k)) (s : SJ p n V j T u r H) (t : TO W gt g (T - 1) (n - 2 - r) 0 (List.replicate (n - 2 - r) emp) M) (hV : V <= 1073000000) :
 Calls Tryz.prog 36 #[.pointer (some ⟨gt, 0, none⟩)] W fun en W' => en = .returned (.int .i64 0) /\ ∃ M', TO W' gt g (T - 1) (n - 2 - r) 4 (fmtW (n - 2 - r) 4) M' /\ UpB Z w0 W' g gd gp n p j (fun k => k = gt \/ M' k) := by
 have CF := lH (sfin_any U s t hV)
 obtain ⟨b1, b2, b3, b4, b5, b6, b7, b8, b9, b10, b11, b12⟩ := s.homes
 obtain ⟨cs, hcs, hc1, hld⟩ := load_tx t
 have CS := lH hcs
 have C1 := lH hc1
 have LD : Hid (∀ W', Below W.heap.size W W' -> (loadVar 92 ⟨gt, 0, none⟩).run Tryz.prog W' = .ok (.agg cs) W') := lH (fun W' hb => by
  obtain ⟨gm, _, _, _, _, hg⟩ := t.cells
  have e1 := run_loadVar_row W gt _ 92 _ (0, 0) _ hg Tryz.underlying92 rfl infoTx
  have e2 := run_loadVar_row W' gt _ 92 _ (0, 0) _ ((hb.block gt t.lt).trans hg) Tryz.underlying92 rfl infoTx
  rw [hld] at e1
  injection e1 with e1 _
  rw [e2, <- e1])
 have hh8 : 8 <= n - 2 - r := by omega
 have CW : Hid (∀ (W : World) (k : Nat) (M : Nat -> Prop) (A : Option Addr) (l : List UInt8), k <= 3 -> UpB Z w0 W g gd gp n p j (fun k => k = gt \/ M k) -> TO W gt g (T - 1) (n - 2 - r) k (fmtW (n - 2 - r) k) M -> HasB W W.heap.size A 512 l -> l.length = 512 ->
  Calls Tryz.prog 71 #[.pointer (some ⟨gt, 0, none⟩), .int .i64 (k : Int), .slice A 512 512] W fun en W' => en = .returned (.int .i64 0) /\ ∃ M', TO W' gt g (T - 1) (n - 2 - r) (k + 1) ((fmtW (n - 2 - r) k).set k (strB l)) M' /\ UpB Z w0 W' g gd gp n p j (fun k => k = gt \/ M' k)) := lH (fun W k M A l hk U t hd hl => by
  refine (write_up U s hV t (.inl rfl) (fun k hk => .inr hk) k (by omega) A 512 l hd hl (Nat.le_refl _) (.inr (by have := fmtW_cnt (n - 2 - r) (by omega) k (by omega); omega)) (by omega)).mono ?_
  rintro en W' ⟨he, M', t1, u1, _, _⟩
  exact ⟨he, M', t1, u1.less (fun q hq => hq.elim (fun h => .inl (.inl h)) .inr)⟩)
 obtain ⟨h, hh⟩ : ∃ h, n - 2 - r = h := ⟨_, rfl⟩
 rw [hh] at t CW hh8 ⊢
 have UU := lH U
 have TT := lH t
 have IT : Hid ((Tryz.prog.info? 92).map (·.size) = some cs.size) := lH (by rw [hcs]; exact infoTx)
 clear U s t hcs hc1 hld hh b1 b2 b3 b4 b5 b6 b7 b8 b9 b10 b11 b12
 go_enter Tryz.func36, Tryz.ntmps36
 go_upto_region 4 with (first
  | (go_at_call 70; refine CF.out.mono ?_; rintro e w1 ⟨rfl, b1⟩
     have B1 := lH b1
     have LD1 := lH (LD.out _ b1)
     clear b1)
  | (refine wpList_load_rowG rfl 92 (.tmp 10) rfl gt rfl (.agg cs) LD1.out ?_)
  | (refine wpList_store_row rfl 92 (.tmp 3) (.tmp 11) rfl w1.heap.size cs rfl rfl 92 _ (heap_alloc_new w1 _) IT.out (by rw [CS.out]; rfl) (Array.all_eq_true_iff_forall_mem.2 (fun v hv => C1.out v (Array.mem_toList_iff.2 hv))) ?_))
 generalize hW3 : World.setRow _ _ _ = w3
 have b3 : Below W.heap.size W w3 := B1.out.trans ((by rw [<- hW3]; exact below_setRow ((Below.refl w1.heap.size w1).alloc (Nat.le_refl _) _) (Nat.le_refl _) _ : Below w1.heap.size w1 w3).mono B1.out.size)
 have U3 := lH (UU.out.below b3)
 have T3 := lH (TT.out.below b3)
 clear hW3 b3
 go_wp2_with fail
 go_loopw [12] (fun x wr => ∃ (k : Nat) (M : Nat -> Prop), k <= 4 /\ x = .int .i64 (k : Int) /\ TO wr gt g (T - 1) h k (fmtW h k) M /\ UpB Z w0 wr g gd gp n p j (fun k => k = gt \/ M k)) (fun x _ => 4 - (intOf x).toNat)
 case atStart => exact ⟨0, M, by omega, rfl, T3.out, U3.out⟩
 case round =>
  obtain ⟨k, M, hk, rfl, qt, qu⟩ := hrel
  obtain ⟨W4, rfl⟩ : ∃ W, W = wr := ⟨_, rfl⟩
  have QT := lH qt
  have QU := lH qu
  clear qt qu
  by_cases hlt : k < 4
  · have hb5 : Below W4.heap.size W4 (W4.alloc (.cells (cellsB zsec).toArray 117)) := (Below.refl _ _).alloc (Nat.le_refl _) _
    have bw5 := Bw.new W4 zsec 117
    obtain ⟨W5, hW5⟩ : ∃ W5, W4.alloc (.cells (cellsB zsec).toArray 117) = W5 := ⟨_, rfl⟩
    rw [hW5] at hb5 bw5
    have HW5 := lH hW5
    have FW : Hid (fmtW h (k + 1) = (fmtW h k).set k (strB (fmtS k))) := lH rfl
    by_cases h1 : k = 1
    · subst h1
      have hc0 : W5.cell? ⟨W4.heap.size, 0, none⟩ = some (.int .u8 0) := bw5.cell (i := 0) (x := 0) (by decide +kernel)
      have hf0 := bw5.frozen 0
      have bw6 := bw5.set_ (i := 0) (x := 15) (y := 15) rfl
      have hb6 : Below W4.heap.size W4 (W5.setCell ⟨W4.heap.size, 0, none⟩ (.int .u8 15)) := hb5.setCell (p := ⟨W4.heap.size, 0, none⟩) (Nat.le_refl _) _
      have CC := lH (CW.out _ 1 M (some ⟨W4.heap.size, 0, none⟩) (fmtS 1) (by omega) (QU.out.below hb6) (QT.out.below hb6) (bw6.has (by simp [zsec_len])) (fmtS_len 1))
      clear bw5 hb5 bw6 hb6 hW5
      go_upto_region 8 with fail
      rw [zc57, HW5.out]
      go_wp2_with (first
       | (go_at_call 71; refine CC.out.mono ?_; rintro e w6 ⟨rfl, M6, t6, u6⟩
          have T6 := lH t6
          have U6 := lH u6
          clear t6 u6))
      go_roundw
      case rel => exact ⟨1 + 1, M6, by omega, rfl, by rw [FW.out]; exact T6.out, U6.out⟩
      case measure => simp [intOf]
    · have CC := lH (CW.out _ k M (some ⟨W4.heap.size, 0, none⟩) (fmtS k) (by omega) (QU.out.below hb5) (QT.out.below hb5) (by unfold fmtS; rw [if_neg h1]; exact bw5.has zsec_len.symm) (fmtS_len k))
      have h1' : ¬ (k : Int) = 1 := by omega
      clear bw5 hb5 hW5
      go_upto_region 8 with fail
      rw [zc57, HW5.out]
      go_wp2_with (first
       | (go_at_call 71; refine CC.out.mono ?_; rintro e w6 ⟨rfl, M6, t6, u6⟩
          have T6 := lH t6
          have U6 := lH u6
          clear t6 u6))
      go_roundw
      case rel => exact ⟨k + 1, M6, by omega, by go_num, by rw [FW.out]; exact T6.out, U6.out⟩
      case measure => simp [intOf]; omega
  · obtain rfl : k = 4 := by omega
    go_wp2_with fail
    go_ret
    exact ⟨rfl, M, QT.out, QU.out⟩
end
def B0 : List UInt8 := fmtS 1
theorem B0_tk (x : Nat) : tkB B0 x = decide (x < 4) := by
 unfold tkB
 by_cases h4 : x < 4
 · rw [decide_eq_true h4]; rfl
 · rw [decide_eq_false h4, Bool.false_or]
   unfold bitB
   by_cases h8 : x < 8
   · have e : B0.getD (x / 8) 0 = 15 := by
      rw [show x / 8 = 0 by omega]
      unfold B0 fmtS
      rw [if_pos rfl, List.getD, List.getElem?_set, if_pos rfl, if_pos (by rw [zsec_len]; omega)]; rfl
     rw [e]
     have all : ∀ j : Fin 8, 4 <= j.val -> tbit 15 j.val = false := by decide
     have := all ⟨x % 8, Nat.mod_lt _ (by omega)⟩ (by show 4 <= x % 8; omega)
     exact this
   · have e : B0.getD (x / 8) 0 = 0 := by
      unfold B0 fmtS
      rw [if_pos rfl, List.getD, List.getElem?_set, if_neg (by omega)]
      by_cases hx : x / 8 < 512
      · have : zsec[x / 8]? = some 0 := by unfold zsec zer; rw [List.getElem?_replicate, if_pos hx]
        rw [this]; rfl
      · rw [List.getElem?_eq_none (by rw [zsec_len]; omega)]; rfl
     rw [e]
     unfold tbit
     simp
theorem SpU.le {Z : DK} {w0 W : World} {g gd gp gt n V V' r q : Nat} {b : List UInt8} {E : Nat -> Prop} (a : SpU (fun _ _ => True) Z w0 W g gd gp gt n V r q b E) (h : V <= V') : SpU (fun _ _ => True) Z w0 W g gd gp gt n V' r q b E := by
 obtain ⟨p, j, T, u, H, ws, M, U, s, x⟩ := a
 exact ⟨p, j, T, u, H, ws, M, U, s.more h, x⟩
theorem gap_at {b : List UInt8} {h k s N : Nat} (hb : ∀ x, tkB b x = decide (x < N)) (hk : 1 <= k) (hs : s = N) (hh : s + k <= h) : IsGap b h k s := by
 subst hs
 exact ⟨hh, fun j hj => by rw [hb]; exact decide_eq_false (by omega), fun s' hs' => ⟨0, by omega, by rw [hb]; exact decide_eq_true (by omega)⟩⟩
end Go.Proofs.YthoebjekkfhhgaaGreat
