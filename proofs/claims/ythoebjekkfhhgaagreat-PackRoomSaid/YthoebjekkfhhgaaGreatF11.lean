/-
  Own work.
-/
import Derived.Test.YthoebjekkfhhgaaGreatCp9
import Derived.Test.YthoebjekkfhhgaaGreatIi
import Derived.Test.YthoebjekkfhhgaaGreatG1
import Derived.Laws.ResultCell
import Derived.Test.YthoebjekkfhhgaaGreatPad
import Derived.Test.YthoebjekkfhhgaaGreatF10
import Derived.Test.YthoebjekkfhhgaaGreatFk
import Derived.Test.YthoebjekkfhhgaaGreatG7
set_option linter.unusedVariables false
set_option linter.unusedSimpArgs false
set_option maxRecDepth 100000
set_option maxHeartbeats 8000000
namespace Go.Proofs.YthoebjekkfhhgaaGreat
open Go.RowKit
theorem results_cell_row4 {P : Program} {fn : Func} {p u v y : Tmp} {ty : TypeId} (h : fn.results = #[.cell p ty, .tmp u, .tmp v, .tmp y]) (tmps : Array Value) (w : World) (g : Nat) (t : TypeId) (cs : Array Value) (fr : Nat × Nat) (d : TypeDesc)
 (hp : tmps.getD p undef = .pointer (some ⟨g, 0, none⟩)) (hg : w.heap[g]? = some (.cells cs t fr))
 (hu : P.underlying ty = some d) (hd : (match d with | .struct _ | .array _ _ => true | _ => false) = true) (hi : (P.info? ty).map (·.size) = some cs.size) (U V Y : Value) (hU : tmps.getD u undef = U) (hV : tmps.getD v undef = V) (hY : tmps.getD y undef = Y) :
 (results fn tmps).run P w = .ok (.tuple #[.agg cs, U, V, Y]) w := by
 have hp' : tmps[p]?.getD undef = .pointer (some ⟨g, 0, none⟩) := by simpa using hp
 have hU' : tmps[u]?.getD undef = U := by simpa using hU
 have hV' : tmps[v]?.getD undef = V := by simpa using hV
 have hY' : tmps[y]?.getD undef = Y := by simpa using hY
 simp [results, h, hp', hU', hV', hY', asAddr, run_loadVar_row w g t ty cs fr d hg hu hd hi]
theorem HasB.load_idAt {w : World} {B n g o k : Nat} {l : List UInt8} (h : HasB w B (some ⟨g, o, none⟩) n l) (hk : k + 32 <= n) : (loadVar 56 ⟨g, o + k, none⟩).run Tryz.prog w = .ok (.agg (cellsB ((l.drop k).take 32)).toArray) w := by
 have hl := h.len
 have hlen : ((l.drop k).take 32).length = 32 := by rw [List.length_take, List.length_drop]; omega
 obtain ⟨g', o', e, _, hc⟩ := h.2 (by omega)
 simp only [Option.some.injEq, Addr.mk.injEq, and_true] at e
 obtain ⟨rfl, rfl⟩ := e
 have hc' : (loadCells ⟨g, o + k, none⟩ (cellsB ((l.drop k).take 32)).length).run Tryz.prog w = .ok (cellsB ((l.drop k).take 32)).toArray w :=
  run_loadCells_list (P := Tryz.prog) w ⟨g, o + k, none⟩ (cellsB ((l.drop k).take 32)) (fun j v hv => by
   obtain ⟨b, hb, rfl⟩ := cellsB_at hv
   rw [Addr.add_lit]
   show w.cell? ⟨g, o + k + j, none⟩ = _
   rw [Nat.add_assoc]
   refine hc (k + j) b ?_
   rw [List.getElem?_take] at hb
   split at hb
   · rw [List.getElem?_drop] at hb; exact hb
   · cases hb)
 rw [cellsB_length, hlen] at hc'
 have hi := infoID
 cases hq : Tryz.prog.info? 56 with
 | none => simp [hq] at hi
 | some i =>
   have hs : i.size = 32 := by simpa [hq] using hi
   have hagg : (isAgg 56).run Tryz.prog w = .ok true w := by
    unfold isAgg
    rw [Sem.run_bind, run_underlying Tryz.underlying56 w]
    rfl
   simp [loadVar, Sem.run_bind, hagg, sizeOf, typeInfo, hq, hs, hc']
theorem wpList_load_at {P : Program} {ops : Array Oper} {rest : List Oper} {o : Oper} {a : Act} {w : World} {Q : Exit -> Act -> World -> Prop} (hw : Region.wanted o (yielded ops a.tmps) = true) (ty : TypeId) (x : Operand) (ho : o.op = .load ty x)
 (ad : Addr) (hx : a.eval x = .pointer (some ad)) (v : Value) (hl : (loadVar ty ad).run P w = .ok v w) (h : wpList P ops Q rest (a.put o.dst v) w) : wpList P ops Q (o :: rest) a w := by
 refine BigFrame.wpList_want hw fun K hK => ?_
 unfold Oper.wp execOp
 simp only [ho, hx, Instr.loadAt, Instr.sureAddr, Sem.run_bind, Sem.run_pure, Result.andThen_ok, hl]
 exact hK _ _ h
theorem built_id : Tryz.prog.built 56 [] = some (cellsB (zer 32)).toArray := by kernel_rfl
theorem box_id (w : World) (q : List UInt8) : Bw ((w.alloc (.cells (cellsB (zer 32)).toArray 56)).setRow w.heap.size (cellsB q).toArray) w.heap.size 56 q := Bw.row (m := q) (Bw.new w (zer 32) 56)
theorem box_below (w : World) (q : List UInt8) : Below w.heap.size w ((w.alloc (.cells (cellsB (zer 32)).toArray 56)).setRow w.heap.size (cellsB q).toArray) :=
 below_setRow ((Below.refl w.heap.size w).alloc (Nat.le_refl _) (.cells (cellsB (zer 32)).toArray 56)) (Nat.le_refl _) (cellsB q).toArray
theorem yieldsIf_bin {P : Program} {ops : Array Oper} {o : Oper} {a : Act} {S : World -> Prop} (hw : Region.wanted o (yielded ops a.tmps) = true) (b : BinOp) (t u : TypeId) (x y : Operand) (ho : o.op = .binOp b t x y u) (X Y V : Value) (hx : a.eval x = X) (hy : a.eval y = Y)
 (hg : ∀ w, (eqGuard b t x y X Y).run P w = .ok () w) (hb : ∀ w, (binOp b t X Y).run P w = .ok V w) : YieldsIf P ops S o V a := by
 refine Or.inl ⟨hw, fun w hS => ?_⟩
 unfold execOp
 simp only [ho, hx, hy, Sem.run_bind, Sem.run_pure, Result.andThen_ok, hg, hb]
theorem OwnB.rowFar {w : World} {base g : Nat} {v : Value} {l : List UInt8} (h : OwnB w base v l) (hg : g < base) (cs : Array Value) : OwnB (w.setRow g cs) base v l := by
 refine ⟨h.1, ?_⟩
 rcases h.2 with h2 | ⟨k, c, cur, e, h3, hk, r⟩
 · exact .inl h2
 · exact .inr ⟨k, c, cur, e, h3, (setRow_other w g k cs (by omega)).trans hk, r⟩
theorem yieldsIf_arrAt {P : Program} {ops : Array Oper} {o : Oper} {a : Act} {S : World -> Prop} (hw : Region.wanted o (yielded ops a.tmps) = true) (arr el : TypeId) (n : Nat) (x : Operand) (ho : o.op = .sliceToArrayPointer arr x)
 (hu : P.underlying arr = some (.array n el)) (A : Option Addr) (len cap : Nat) (hx : a.eval x = .slice A len cap) (hn : n <= len) : YieldsIf P ops S o (.pointer A) a := by
 refine Or.inl ⟨hw, fun w hS => ?_⟩
 have hr : (Instr.arrayAt arr (.slice A len cap)).run P w = .ok (.pointer A) w := by
  unfold Instr.arrayAt
  simp [run_underlying hu, Nat.not_lt.2 hn]
 unfold execOp
 simp only [ho, hx, Sem.run_bind, Sem.run_pure, Result.andThen_ok, hr]
theorem step_store_row {P : Program} {ops : Array Oper} {o : Oper} {a : Act} {w : World} {K : Act -> World -> Prop} {Q : Exit -> Act -> World -> Prop} {F : Prop} (hw : Region.wanted o (yielded ops a.tmps) = true) (ty : TypeId) (x y : Operand) (ho : o.op = .store ty x y)
 (g : Nat) (cells : Array Value) (hx : a.eval x = .pointer (some ⟨g, 0, none⟩)) (hy : a.eval y = .agg cells) (t : TypeId) (cur : Array Value) (hg : w.heap[g]? = some (.cells cur t (0, 0))) (hi : (P.info? ty).map (·.size) = some cells.size)
 (hz : cur.size = cells.size) (h1 : ∀ v ∈ cells.toList, v.oneCell' = true) (h : K (a.put o.dst undef) (w.setRow g cells)) :
 if Region.wanted o (yielded ops a.tmps) = true then Oper.wp P o a w K Q else F := by
 rw [if_pos hw]
 refine wp_store_part ty x y ho g 0 cells hx hy t cur hg hi (by omega) h1 ?_
 have e : (cur.toList.take 0 ++ cells.toList ++ cur.toList.drop (0 + cells.size)).toArray = cells := by
  rw [List.take_zero, List.nil_append, List.drop_of_length_le (by rw [Array.length_toList]; omega), List.append_nil]
 rw [e]
 exact h
theorem OwnB.one (w : World) (base : Nat) (x : Int) (b : UInt8) (hx : x = (b.toNat : Int)) (hb : base <= w.heap.size) : OwnB (w.alloc (.cells #[.int .u8 x] 5)) base (.slice (some ⟨w.heap.size, 0, none⟩) 1 1) [b] := by
 subst hx
 exact ⟨by simp [cellsB], .inr ⟨w.heap.size, 1, _, rfl, hb, heap_alloc_new w _, by simp, by simp [maxLen], by simp, by simp [cellsB]⟩⟩
theorem cell_setRow {w : World} {g : Nat} {p : Addr} {cs : Array Value} (hne : p.block ≠ g) : (w.setRow g cs).cell? p = w.cell? p := by
 unfold World.cell?
 rw [setRow_other w g p.block cs hne]
def RsR (w wr : World) (kb hb pg : Nat) (P : List UInt8) (s : List Nat) : Prop :=
 Bw wr w.heap.size 56 (zer 32) /\ Wd wr kb 227 keysL /\ Wd wr hb 229 s /\ (∀ i x, P[i]? = some x -> wr.cell? ⟨pg, i, none⟩ = some (.int .u8 (x.toNat : Int))) /\ pg < hb /\ kb < hb /\ w.heap.size < hb /\ Below w.heap.size w wr
section
variable {w wr wr' : World} {kb hb pg : Nat} {P : List UInt8} {s s' : List Nat}
theorem RsR.below (h : RsR w wr kb hb pg P s) (hb' : Below wr.heap.size wr wr') : RsR w wr' kb hb pg P s := by
 obtain ⟨h0, h1, h2, h3, h4, h5, h6, h7⟩ := h
 exact ⟨h0.below hb' h0.lt, (hb'.block _ h1.lt).trans h1, (hb'.block _ h2.lt).trans h2, fun i x hx => (hb'.cell (p := ⟨pg, i, none⟩) (Nat.lt_trans h4 h2.lt)).trans (h3 i x hx), h4, h5, h6, h7.trans (hb'.mono h7.size)⟩
theorem RsR.alloc (h : RsR w wr kb hb pg P s) (o : Obj) : RsR w (wr.alloc o) kb hb pg P s := h.below ((Below.refl _ _).alloc (Nat.le_refl _) _)
theorem RsR.drewN (h : RsR w wr kb hb pg P s) (n : Nat) : RsR w (wr.drewN n) kb hb pg P s := ⟨h.1, h.2.1, h.2.2.1, h.2.2.2.1, h.2.2.2.2.1, h.2.2.2.2.2.1, h.2.2.2.2.2.2.1, below_drewN h.2.2.2.2.2.2.2 n⟩
theorem RsR.far (h : RsR w wr kb hb pg P s) {p : Addr} (hp : hb < p.block) (u : Value) : RsR w (wr.setCell p u) kb hb pg P s := by
 obtain ⟨h0, h1, h2, h3, h4, h5, h6, h7⟩ := h
 refine ⟨h0.far (by omega) _, h1.far (by omega) _, h2.far (by omega) _, fun i x hx => ?_, h4, h5, h6, h7.setCell (by omega) _⟩
 rw [World.cell?_setCell_other wr _ _ u (fun e => by rw [e] at hp; simp at hp; omega)]
 exact h3 i x hx
theorem RsR.putS (h : RsR w wr kb hb pg P s) : RsR w (wr.setRow hb (wordsV s')) kb hb pg P s' := by
 obtain ⟨h0, h1, h2, h3, h4, h5, h6, h7⟩ := h
 refine ⟨h0.rowFar (by omega) _, h1.rowFar (by omega) _, h2.row, fun i x hx => ?_, h4, h5, h6, below_setRow h7 (by omega) _⟩
 exact (cell_setRow (show pg ≠ hb by omega)).trans (h3 i x hx)
end
theorem fsize_any (w : World) (n : Int) (hn : -9223372036854775808 <= n /\ n <= 9223372036854775807) : Calls Tryz.prog 93 #[.int .i64 n] w fun e w' => e = .returned (.int .i64 (fsz n)) /\ w = w' := by
 obtain ⟨h1, h2⟩ := hn
 by_cases hlo : n < 0
 · rw [show fsz n = 0 from if_pos (.inl hlo)]
   go_enter Tryz.func93, Tryz.ntmps93
   go_wp2_with fail
   go_ret
   exact ⟨rfl, rfl⟩
 · by_cases hhi : 4200 < n
   · rw [show fsz n = 0 from if_pos (.inr hhi)]
     go_enter Tryz.func93, Tryz.ntmps93
     go_wp2_with fail
     go_ret
     exact ⟨rfl, rfl⟩
   · rw [show fsz n = 46 + n from if_neg (by omega)]
     go_enter Tryz.func93, Tryz.ntmps93
     go_wp2_with fail
     go_ret
     exact ⟨rfl, rfl⟩
theorem infoCk : (Tryz.prog.info? 174).map (·.size) = some 8 := by kernel_rfl
theorem ck_iv (l : List UInt8) (hl : l.length = 8) : (Tryz.prog.info? 174).map (·.size) = some (cellsB l).toArray.size := by rw [cellsB_size, hl]; exact infoCk
theorem ck_hz (l : List UInt8) (hl : l.length = 8) : (cellsB (zer 8)).toArray.size = (cellsB l).toArray.size := by rw [cellsB_size, cellsB_size, hl, zer_len]
theorem Bw.loadCk {w : World} {g : Nat} {l : List UInt8} (h : Bw w g 174 l) (hl : l.length = 8) : (loadVar 174 ⟨g, 0, none⟩).run Tryz.prog w = .ok (.agg (cellsB l).toArray) w :=
 run_loadVar_row w g _ 174 _ (0, 0) _ h Tryz.underlying174 rfl (by rw [cellsB_size, hl]; exact infoCk)
theorem HasB.load_ckAt {w : World} {B n g o k : Nat} {l : List UInt8} (h : HasB w B (some ⟨g, o, none⟩) n l) (hk : k + 8 <= n) : (loadVar 174 ⟨g, o + k, none⟩).run Tryz.prog w = .ok (.agg (cellsB ((l.drop k).take 8)).toArray) w := by
 have hl := h.len
 have hlen : ((l.drop k).take 8).length = 8 := by rw [List.length_take, List.length_drop]; omega
 obtain ⟨g', o', e, _, hc⟩ := h.2 (by omega)
 simp only [Option.some.injEq, Addr.mk.injEq, and_true] at e
 obtain ⟨rfl, rfl⟩ := e
 have hc' : (loadCells ⟨g, o + k, none⟩ (cellsB ((l.drop k).take 8)).length).run Tryz.prog w = .ok (cellsB ((l.drop k).take 8)).toArray w :=
  run_loadCells_list (P := Tryz.prog) w ⟨g, o + k, none⟩ (cellsB ((l.drop k).take 8)) (fun j v hv => by
   obtain ⟨b, hb, rfl⟩ := cellsB_at hv
   rw [Addr.add_lit]
   show w.cell? ⟨g, o + k + j, none⟩ = _
   rw [Nat.add_assoc]
   refine hc (k + j) b ?_
   rw [List.getElem?_take] at hb
   split at hb
   · rw [List.getElem?_drop] at hb; exact hb
   · cases hb)
 rw [cellsB_length, hlen] at hc'
 have hi := infoCk
 cases hq : Tryz.prog.info? 174 with
 | none => simp [hq] at hi
 | some i =>
   have hs : i.size = 8 := by simpa [hq] using hi
   have hagg : (isAgg 174).run Tryz.prog w = .ok true w := by
    unfold isAgg
    rw [Sem.run_bind, run_underlying Tryz.underlying174 w]
    rfl
   simp [loadVar, Sem.run_bind, hagg, sizeOf, typeInfo, hq, hs, hc']
theorem eql_ck (l m : List UInt8) (hl : l.length = 8) (hm : m.length = 8) (w : World) :
 (binOp .eql 174 (.agg (cellsB l).toArray) (.agg (cellsB m).toArray)).run Tryz.prog w = .ok (.bool (decide (l = m))) w := by
 have c : Tryz.prog.cellsOf 174 = 8 := by kernel_rfl
 have := eql_ints (P := Tryz.prog) Tryz.underlying174 Tryz.underlying5 c (by kernel_rfl) (by kernel_rfl) (fun cs hcs => by
  unfold Value.formed
  simp only [Tryz.underlying174, hcs, c]
  rfl) (l.map fun x => (x.toNat : Int)) (m.map fun x => (x.toNat : Int)) (by simp [hl]) (by simp [hm]) (wf_u8 l) (wf_u8 m) w
 rw [<- bytes_ints, <- bytes_ints] at this
 have e : (decide (l.map (fun x => (x.toNat : Int)) = m.map (fun x => (x.toNat : Int)))) = decide (l = m) := decide_eq_decide.2 ⟨bytes_inj, fun h => by rw [h]⟩
 rw [this, e]
theorem neq_ck (l m : List UInt8) (hl : l.length = 8) (hm : m.length = 8) (w : World) :
 (binOp .neq 174 (.agg (cellsB l).toArray) (.agg (cellsB m).toArray)).run Tryz.prog w = .ok (.bool (!decide (l = m))) w := by
 have h := eql_ck l m hl hm w
 simp only [binOp, Sem.run_bind] at h ⊢
 revert h
 cases (Op.equal 174 (.agg (cellsB l).toArray) (.agg (cellsB m).toArray)).run Tryz.prog w with
 | ok r w' =>
   intro h
   simp only [Result.andThen_ok, Sem.run_pure, Result.ok.injEq, Value.bool.injEq] at h
   obtain ⟨rfl, rfl⟩ := h
   rfl
 | _ => intro h; simp [Result.andThen] at h
theorem guard_neq_ck (xs ys : Array Value) (x y : Operand) (w : World) : (eqGuard .neq 174 x y (.agg xs) (.agg ys)).run Tryz.prog w = .ok () w := by
 unfold eqGuard
 simp
theorem of_two8 {W : World} {A B : Option Addr} {n m c d : Nat} {a b : List UInt8} (ha : HasB W W.heap.size A n a) (hb : HasB W W.heap.size B m b) (hc : n <= c) (hd : m <= d) (hn : n <= 8192) (hm : m <= 8192) :
 Calls Tryz.prog 132 #[.slice (some ⟨W.heap.size, 0, none⟩) 2 2] (W.alloc (.cells #[.slice A n c, .slice B m d] 34)) (RetID (W.alloc (.cells #[.slice A n c, .slice B m d] 34)) (sumS (a ++ b))) := by
 have := of_any _ 2 2 [a, b] _ (has_two ha hb hc hd) (by omega) (by have := ha.len; have := hb.len; simp; omega)
 simpa using this
theorem check_any (w : World) (A : Option Addr) (n c : Nat) (key l : List UInt8) (h : HasB w w.heap.size A n l) (hc : n <= c) (hn : n <= 4200) (hk : key.length = 32) :
 Calls Tryz.prog 99 #[.agg (cellsB key).toArray, .slice A n c] w fun e w' => e = .returned (.agg (cellsB (frS key l)).toArray) /\ Below w.heap.size w w' := by
 obtain ⟨S, hS⟩ : ∃ S, sumS (key ++ l) = S := ⟨_, rfl⟩
 have hsl : S.length = 32 := by rw [<- hS]; exact sum_len _
 have FR : Hid (frS key l = S.take 8) := lH (by rw [<- hS]; rfl)
 obtain ⟨W1, hW1⟩ : ∃ W1, (w.alloc (.cells (cellsB key).toArray 56)).alloc (.cells (cellsB (zer 8)).toArray 174) = W1 := ⟨_, rfl⟩
 have hb1 : Below w.heap.size w W1 := by rw [<- hW1]; exact ((Below.refl _ w).alloc (Nat.le_refl _) _).alloc (by simp) _
 have hbs : W1.heap.size = w.heap.size + 2 := by rw [<- hW1]; simp
 have hkey : Bw W1 w.heap.size 56 key := by rw [<- hW1]; exact (Bw.new w key _).alloc _
 have hz : Bw W1 (w.heap.size + 1) 174 (zer 8) := by
  rw [<- hW1]
  have := Bw.new (w.alloc (.cells (cellsB key).toArray 56)) (zer 8) 174
  simpa using this
 have CO := lH (of_two8 (hkey.has hk.symm) (h.on hb1) (Nat.le_refl 32) hc (by omega) (by omega))
 rw [hS] at CO
 have SL := lH hsl
 have HW := lH hW1
 have B1 := lH hb1
 have ZC := lH hz
 have ZL := lH hz.lt
 have IV := lH (id_iv S hsl)
 have IZ := lH (id_hz S hsl)
 have S8 : Hid ((S.take 8).length = 8) := lH (by rw [List.length_take, hsl]; rfl)
 have CV := lH (ck_iv (S.take 8) S8.out)
 have CZ := lH (ck_hz (S.take 8) S8.out)
 clear hS hsl hW1 hb1 hbs hkey hz h hk
 go_enter Tryz.func99, Tryz.ntmps99
 go_upto_region 1 with fail
 rw [show (w.alloc (.cells (cellsB key).toArray 56)).alloc (.cells #[.int .u8 0, .int .u8 0, .int .u8 0, .int .u8 0, .int .u8 0, .int .u8 0, .int .u8 0, .int .u8 0] 174) = W1 from HW.out]
 go_upto_region 2 with (first
  | (go_at_call 132; refine CO.out.mono ?_; rintro e w2 ⟨rfl, b2⟩
     have b2' : Below W1.heap.size W1 w2 := ((Below.refl _ W1).alloc (Nat.le_refl _) _).trans (b2.mono (by simp))
     have Z2 := lH (ZC.out.below b2' ZL.out)
     have B2 := lH (B1.out.trans (b2'.mono B1.out.size))
     clear b2 b2')
  | (refine wpList_store_row rfl 56 (.tmp 5) (.tmp 9) rfl w2.heap.size (cellsB S).toArray rfl rfl 56 _ (Bw.new w2 (zer 32) 56) IV.out IZ.out (cellsB_ones _) ?_))
 generalize hw3 : World.setRow _ _ _ = w3
 have hsum : Bw w3 w2.heap.size 56 S := by rw [<- hw3]; exact box_id w2 S
 have hb3 : Below w2.heap.size w2 w3 := by rw [<- hw3]; exact box_below w2 S
 have LD := lH ((hsum.has SL.out.symm).load_ckAt (k := 0) (by omega))
 rw [List.drop_zero] at LD
 have Z3 := lH (Z2.out.below hb3 Z2.out.lt)
 have B3 := lH (B2.out.trans (hb3.mono B2.out.size))
 clear hw3 hsum hb3
 go_wp2_with (first
  | (refine wpList_arrayAt rfl 174 _ 8 (.tmp 10) rfl Tryz.underlying174 _ _ _ rfl (Nat.le_refl _) ?_)
  | (refine wpList_load_at rfl 174 (.tmp 11) rfl ⟨w2.heap.size, 0, none⟩ rfl _ LD.out ?_)
  | (refine wpList_store_row rfl 174 (.tmp 4) (.tmp 12) rfl (w.heap.size + 1) (cellsB (S.take 8)).toArray rfl rfl 174 _ Z3.out CV.out CZ.out (cellsB_ones _) ?_))
 refine bodyPost_ret (v := .agg (cellsB (S.take 8)).toArray) ?_ (by rfl) ?_
 · exact results_cell_row (p := 4) (ty := 174) rfl _ _ (w.heap.size + 1) 174 (cellsB (S.take 8)).toArray _ _ rfl (setRow_heap _ _ _ _ 174 _ Z3.out) Tryz.underlying174 rfl CV.out
 · rw [FR.out]
   exact ⟨rfl, below_setRow B3.out (by omega) _⟩
theorem has_four {W : World} {A1 A2 A3 A4 : Option Addr} {n1 n2 n3 n4 c1 c2 c3 c4 : Nat} {l1 l2 l3 l4 : List UInt8} (h1 : HasB W W.heap.size A1 n1 l1) (h2 : HasB W W.heap.size A2 n2 l2) (h3 : HasB W W.heap.size A3 n3 l3) (h4 : HasB W W.heap.size A4 n4 l4) (k1 : n1 <= c1) (k2 : n2 <= c2) (k3 : n3 <= c3) (k4 : n4 <= c4) :
 HasBB (W.alloc (.cells #[.slice A1 n1 c1, .slice A2 n2 c2, .slice A3 n3 c3, .slice A4 n4 c4] 34)) (W.alloc (.cells #[.slice A1 n1 c1, .slice A2 n2 c2, .slice A3 n3 c3, .slice A4 n4 c4] 34)).heap.size (some ⟨W.heap.size, 0, none⟩) 4 [l1, l2, l3, l4] := by
 refine ⟨rfl, fun _ => ⟨W.heap.size, 0, rfl, by simp, fun i l hi => ?_⟩⟩
 have hrow := heap_alloc_new W (.cells #[.slice A1 n1 c1, .slice A2 n2 c2, .slice A3 n3 c3, .slice A4 n4 c4] 34)
 match i with
 | 0 =>
   simp only [List.getElem?_cons_zero, Option.some.injEq] at hi
   subst hi
   exact ⟨A1, n1, c1, by rw [cell_of_row _ _ _ _ _ _ hrow]; rfl, k1, (h1.alloc (Nat.le_refl _) _).more (by simp)⟩
 | 1 =>
   simp only [List.getElem?_cons_succ, List.getElem?_cons_zero, Option.some.injEq] at hi
   subst hi
   exact ⟨A2, n2, c2, by rw [cell_of_row _ _ _ _ _ _ hrow]; rfl, k2, (h2.alloc (Nat.le_refl _) _).more (by simp)⟩
 | 2 =>
   simp only [List.getElem?_cons_succ, List.getElem?_cons_zero, Option.some.injEq] at hi
   subst hi
   exact ⟨A3, n3, c3, by rw [cell_of_row _ _ _ _ _ _ hrow]; rfl, k3, (h3.alloc (Nat.le_refl _) _).more (by simp)⟩
 | 3 =>
   simp only [List.getElem?_cons_succ, List.getElem?_cons_zero, Option.some.injEq] at hi
   subst hi
   exact ⟨A4, n4, c4, by rw [cell_of_row _ _ _ _ _ _ hrow]; rfl, k4, (h4.alloc (Nat.le_refl _) _).more (by simp)⟩
 | i + 4 => simp at hi
theorem ck_box (w : World) (q : List UInt8) : Bw ((w.alloc (.cells (cellsB (zer 8)).toArray 174)).setRow w.heap.size (cellsB q).toArray) w.heap.size 174 q := Bw.row (m := q) (Bw.new w (zer 8) 174)
theorem ck_below (w : World) (q : List UInt8) : Below w.heap.size w ((w.alloc (.cells (cellsB (zer 8)).toArray 174)).setRow w.heap.size (cellsB q).toArray) :=
 below_setRow ((Below.refl w.heap.size w).alloc (Nat.le_refl _) _) (Nat.le_refl _) _
theorem fput_any (w : World) (A : Option Addr) (n c : Nat) (key l : List UInt8) (h : HasB w w.heap.size A n l) (hc : n <= c) (hn : n <= 1073741824) (hk : key.length = 32) :
 Calls Tryz.prog 81 #[.agg (cellsB key).toArray, .slice A n c] w (RetBE w (fputL key l) (fputE l)) := by
 have hl := h.len
 by_cases hbig : 4200 < n
 · have e1 : fputL key l = [] := if_neg (by omega)
   have e2 : fputE l = 2 := if_neg (by omega)
   rw [e1, e2]
   clear e1 e2 h hk hl
   go_enter Tryz.func81, Tryz.ntmps81
   go_wp2_with fail
   go_ret2
   exact ⟨none, 0, 0, rfl, OwnB.nil _ _, (Below.refl _ w).alloc (Nat.le_refl _) _⟩
 · have e1 : fputL key l = frmL key l := if_pos (by omega)
   have e2 : fputE l = 0 := if_pos (by omega)
   rw [e1, e2]
   obtain ⟨P, hP⟩ : ∃ P, ([199, 70] : List UInt8) ++ be 4 n = P := ⟨_, rfl⟩
   have hpl : P.length = 6 := by rw [<- hP, List.length_append, be_length]; rfl
   have hsl := frS_len key l
   obtain ⟨S, hS⟩ : ∃ S, frS key l = S := ⟨_, rfl⟩
   rw [hS] at hsl
   have FR : Hid (frmL key l = [P, S, key, l].flatten) := lH (by rw [<- hP, <- hS, hl]; simp [frmL])
   obtain ⟨base, hbase⟩ : ∃ base, (w.alloc (.cells (cellsB key).toArray 56)).alloc (.cells (cellsB [199, 70]).toArray 5) = base := ⟨_, rfl⟩
   have hb0 : Below w.heap.size w base := by rw [<- hbase]; exact ((Below.refl _ w).alloc (Nat.le_refl _) _).alloc (by simp) _
   have hbs : base.heap.size = w.heap.size + 2 := by rw [<- hbase]; simp
   have hkey : Bw base w.heap.size 56 key := by rw [<- hbase]; exact (Bw.new w key _).alloc _
   have C1 : Hid (Calls Tryz.prog 95 #[.slice (some ⟨w.heap.size + 1, 0, none⟩) 2 2, .int .u64 (n : Int), .int .i64 4] base (RetBE base P 0)) := lH (by
    have hr := HasB.row (w.alloc (.cells (cellsB key).toArray 56)) [199, 70] 5
    rw [hbase] at hr
    have := put_ok (some ⟨w.heap.size + 1, 0, none⟩) [199, 70] 2 2 n 4 base (by simpa using hr) (by omega) (by omega) (by omega) (by omega) (by have : (256 : Nat) ^ 4 = 4294967296 := rfl; omega)
    rwa [hP] at this)
   have KEY : Hid (∀ W, Below base.heap.size base W -> Bw W w.heap.size 56 key) := lH (fun W hW => hkey.below hW hkey.lt)
   have BB : Hid (∀ W, Below base.heap.size base W -> HasB W W.heap.size A n l) := lH (fun W hW => h.on (hb0.trans (hW.mono hb0.size)))
   have CK : Hid (∀ W, Below base.heap.size base W -> Calls Tryz.prog 99 #[.agg (cellsB key).toArray, .slice A n c] W fun e w' => e = .returned (.agg (cellsB S).toArray) /\ Below W.heap.size W w') := lH (fun W hW => by rw [<- hS]; exact check_any W A n c key l (BB.out W hW) hc (by omega) hk)
   have PL := lH hpl
   have KL := lH hk
   have LL : Hid (l.length <= 4200) := lH (by omega)
   have SL := lH hsl
   have B0 := lH hb0
   have BS := lH hbs
   have HB0 := lH hbase
   have IV := lH (ck_iv S hsl)
   have IZ := lH (ck_hz S hsl)
   clear e1 e2 h hk hl hP hS hb0 hbs hkey hpl hsl hbase
   go_enter Tryz.func81, Tryz.ntmps81
   go_upto_region 5 with (first
    | (go_at_call 95
       rw [show (w.alloc (.cells (cellsB key).toArray 56)).alloc (.cells #[.int .u8 199, .int .u8 70] 5) = base from HB0.out]
       refine C1.out.mono ?_; rintro e w1 ⟨A1, n1, c1, rfl, o1, b1⟩
       have O1 := lH o1
       have B1 := lH b1
       have LDK := lH ((KEY.out _ b1).load KL.out)
       clear o1 b1)
    | (refine wpList_load_rowG rfl 56 (.tmp 2) rfl w.heap.size rfl (.agg (cellsB key).toArray) LDK.out ?_)
    | (go_at_call 99; refine (CK.out _ B1.out).mono ?_; rintro e w2 ⟨rfl, b2⟩
       have O2 := lH (O1.out.below b2)
       have B2 := lH (B1.out.trans (b2.mono B1.out.size))
       clear b2)
    | (refine wpList_store_row rfl 174 (.tmp 8) (.tmp 22) rfl w2.heap.size (cellsB S).toArray rfl rfl 174 _ (Bw.new w2 (zer 8) 174) IV.out IZ.out (cellsB_ones _) ?_))
   generalize hw3 : World.setRow _ _ _ = w3
   have hsum : Bw w3 w2.heap.size 174 S := by rw [<- hw3]; exact ck_box w2 S
   have hb3 : Below w2.heap.size w2 w3 := by rw [<- hw3]; exact ck_below w2 S
   obtain ⟨w4, hw4⟩ : ∃ w4, w3.drew = w4 := ⟨_, rfl⟩
   have hb34 : Below w3.heap.size w3 w4 := by rw [<- hw4]; exact (Below.refl _ w3).drew
   have hb24 : Below w2.heap.size w2 w4 := hb3.trans (hb34.mono hb3.size)
   have hB4 : Below base.heap.size base w4 := B2.out.trans (hb24.mono B2.out.size)
   have o4 : OwnB w4 base.heap.size (.slice A1 n1 c1) P := O2.out.below hb24
   have hcat := concat_any (some ⟨w4.heap.size, 0, none⟩) 4 4 [P, S, key, l] _ (has_four (c4 := c) o4.has ((hsum.below hb34 hsum.lt).has SL.out.symm) ((KEY.out _ hB4).has KL.out.symm) (BB.out _ hB4) o4.caps.1 (Nat.le_refl 8) (Nat.le_refl 32) hc) (by omega) (by have := PL.out; simp only [List.flatten_cons, List.length_append]; omega) (by have := PL.out; have := SL.out; have := KL.out; have := LL.out; simp; omega)
   have CC := lH hcat
   have H4 := lH hw4
   have B4 := lH (B0.out.trans (hB4.mono B0.out.size))
   clear hw3 hsum hb3 hw4 hb34 hb24 hB4 o4 hcat
   go_still_tail 4, (by kernel_rfl)
   change wpList _ _ _ _ _ w3.drew
   rw [H4.out]
   go_wp2_with (first
    | (go_at_call 122; refine CC.out.mono ?_; rintro e w5 ⟨A5, n5, c5, rfl, o5, b5⟩
       have O5 := lH o5
       have B5 := lH ((B4.out.alloc B4.out.size _).trans (b5.mono (Nat.le_trans B4.out.size (by simp))))
       clear o5 b5))
   go_ret2
   rw [FR.out]
   exact ⟨_, _, _, rfl, O5.out.less (Nat.le_trans B4.out.size (by simp)), B5.out⟩
theorem ftake_of (l : List UInt8) : (l.length < 46 -> ftake l = .no 3) /\ (46 <= l.length -> ¬ (l[0]? = some 199 /\ l[1]? = some 70) -> ftake l = .no 4) /\
 (46 <= l.length -> l[0]? = some 199 -> l[1]? = some 70 -> (4200 < fN l -> ftake l = .no 2) /\ (fN l <= 4200 -> (l.length < 46 + fN l -> ftake l = .no 3) /\
   (46 + fN l <= l.length -> (frS (fK l) (fB l) = fT l -> ftake l = ⟨fK l, fB l, 46 + fN l, 0⟩) /\ (¬ frS (fK l) (fB l) = fT l -> ftake l = .no 11)))) := by
 refine ⟨fun h => if_pos h, fun h1 h2 => ?_, fun h1 h2 h3 => ⟨fun h4 => ?_, fun h4 => ⟨fun h5 => ?_, fun h5 => ⟨fun h6 => ?_, fun h6 => ?_⟩⟩⟩⟩
 · unfold ftake; rw [if_neg (by omega), if_pos h2]
 · unfold ftake; rw [if_neg (by omega), if_neg (fun q => q ⟨h2, h3⟩), if_pos h4]
 · unfold ftake; rw [if_neg (by omega), if_neg (fun q => q ⟨h2, h3⟩), if_neg (by omega), if_pos h5]
 · unfold ftake; rw [if_neg (by omega), if_neg (fun q => q ⟨h2, h3⟩), if_neg (by omega), if_neg (by omega), if_pos h6]
 · unfold ftake; rw [if_neg (by omega), if_neg (fun q => q ⟨h2, h3⟩), if_neg (by omega), if_neg (by omega), if_neg h6]
theorem byte_ne {b : UInt8} {k : Nat} (hk : k < 256) : b = UInt8.ofNat k ↔ b.toNat = k := by
 constructor
 · rintro rfl
   rw [UInt8.toNat_ofNat']
   omega
 · intro h
   apply UInt8.toNat_inj.1
   rw [UInt8.toNat_ofNat']
   omega
def fC (l : List UInt8) : Prop := 46 <= l.length /\ l[0]? = some 199 /\ l[1]? = some 70 /\ fN l <= 4200 /\ 46 + fN l <= l.length
theorem ftake_bad (l : List UInt8) (h : ¬ fC l) : ∃ k : Int, k ≠ 0 /\ ftake l = .no k := by
 by_cases h1 : l.length < 46
 · exact ⟨3, by decide, (ftake_of l).1 h1⟩
 · by_cases h2 : l[0]? = some 199 /\ l[1]? = some 70
   · by_cases h3 : fN l <= 4200
     · by_cases h4 : 46 + fN l <= l.length
       · exact absurd ⟨by omega, h2.1, h2.2, h3, h4⟩ h
       · exact ⟨3, by decide, (((ftake_of l).2.2 (by omega) h2.1 h2.2).2 h3).1 (by omega)⟩
     · exact ⟨2, by decide, ((ftake_of l).2.2 (by omega) h2.1 h2.2).1 (by omega)⟩
   · exact ⟨4, by decide, (ftake_of l).2.1 (by omega) h2⟩
theorem ftake_good (l : List UInt8) (h : fC l) : ftake l = if frS (fK l) (fB l) = fT l then ⟨fK l, fB l, 46 + fN l, 0⟩ else .no 11 := by
 obtain ⟨h1, h2, h3, h4, h5⟩ := h
 have q := (((ftake_of l).2.2 h1 h2 h3).2 h4).2 h5
 split
 · rename_i h; exact q.1 h
 · rename_i h; exact q.2 h
def RetEnd (w : World) (l : List UInt8) (e : Ending) (w' : World) : Prop :=
 w = w' /\ ((¬ fC l /\ ∃ k : Int, k ≠ 0 /\ e = .returned (.tuple #[.int .i64 0, .int .i64 k]) /\ ftake l = .no k) \/
   (e = .returned (.tuple #[.int .i64 ((46 + fN l : Nat) : Int), .int .i64 0]) /\ fC l))
theorem end_any (A : Option Addr) (n c : Nat) (l : List UInt8) (w : World) (h : HasB w w.heap.size A n l) (hc : n <= c) (hcm : c <= maxLen) (hn : n <= 1073741824) :
 Calls Tryz.prog 98 #[.slice A n c] w (RetEnd w l) := by
 have hl := h.len
 by_cases h46 : n < 46
 · have hf := (ftake_of l).1 (by omega)
   have HF := lH hf
   have NC : Hid (¬ fC l) := lH (fun q => by have := q.1; omega)
   clear h hl hf
   go_enter Tryz.func98, Tryz.ntmps98
   go_wp2_with fail
   go_ret2
   exact ⟨rfl, .inl ⟨NC.out, 3, by decide, rfl, HF.out⟩⟩
 · obtain ⟨g, o, rfl, hg, hcell⟩ := h.2 (by omega)
   obtain ⟨b0, hb0⟩ := at_some l 0 (by omega)
   obtain ⟨b1, hb1⟩ := at_some l 1 (by omega)
   have hc0 : w.cell? ⟨g, o, none⟩ = some (.int .u8 (b0.toNat : Int)) := hcell 0 b0 hb0
   have hc1 : w.cell? ⟨g, o + 1, none⟩ = some (.int .u8 (b1.toNat : Int)) := hcell 1 b1 hb1
   have hx0 := byte_ne (b := b0) (k := 199) (by omega)
   have hx1 := byte_ne (b := b1) (k := 70) (by omega)
   have hlt := fN_lt l
   have CA : Hid (Calls Tryz.prog 131 #[.slice (some ⟨g, o, none⟩) n c, .int .i64 2, .int .i64 4] w fun e w' => e = .returned (.tuple #[.int .u64 (fN l : Nat), .int .i64 0]) /\ w = w') := lH (at_ok (some ⟨g, o, none⟩) l n c 2 4 w h hn hc hcm (by omega) (by omega) (by omega))
   by_cases h199 : b0.toNat = 199
   · have e0 := hx0.2 h199
     subst e0
     have hc0 : w.cell? ⟨g, o, none⟩ = some (.int .u8 199) := hc0
     by_cases h70 : b1.toNat = 70
     · have e1 := hx1.2 h70
       subst e1
       have hc1 : w.cell? ⟨g, o + 1, none⟩ = some (.int .u8 70) := hc1
       have q0 : l[0]? = some 199 := hb0
       have q1 : l[1]? = some 70 := hb1
       have FT := lH ((ftake_of l).2.2 (by omega) q0 q1)
       have Q0 := lH q0
       have Q1 := lH q1
       have HL := lH hl
       obtain ⟨N, hN⟩ : ∃ N, fN l = N := ⟨_, rfl⟩
       rw [hN] at CA FT hlt
       have HN := lH hN
       clear hx0 hx1 h199 h70 hcell hb0 hb1 q0 q1 hl h hN
       by_cases h4 : 4200 < N
       · go_enter Tryz.func98, Tryz.ntmps98
         go_wp2_with (first
          | (go_at_call 131; refine CA.out.mono ?_; rintro e w1 ⟨rfl, rfl⟩))
         go_ret2
         exact ⟨rfl, .inl ⟨fun q => by have := q.2.2.2.1; rw [HN.out] at this; omega, 2, by decide, rfl, FT.out.1 h4⟩⟩
       · have CS : Hid (Calls Tryz.prog 93 #[.int .i64 (N : Int)] w fun e w' => e = .returned (.int .i64 ((46 + N : Nat) : Int)) /\ w = w') := lH (by
          have := fsize_any w (N : Int) (by omega)
          rwa [show fsz (N : Int) = ((46 + N : Nat) : Int) by unfold fsz; rw [if_neg (by omega)]; omega] at this)
         obtain ⟨E, hE⟩ : ∃ E, 46 + N = E := ⟨_, rfl⟩
         rw [hE] at CS
         have HE := lH hE
         have hE2 : E <= 4246 := by omega
         clear hE
         by_cases h5 : n < E
         · go_enter Tryz.func98, Tryz.ntmps98
           go_wp2_with (first
            | (go_at_call 131; refine CA.out.mono ?_; rintro e w1 ⟨rfl, rfl⟩)
            | (go_at_call 93; refine CS.out.mono ?_; rintro e w1 ⟨rfl, rfl⟩))
           go_ret2
           exact ⟨rfl, .inl ⟨fun q => by have := q.2.2.2.2; rw [HN.out] at this; have := HE.out; have := HL.out; omega, 3, by decide, rfl, (FT.out.2 (by omega)).1 (by have := HE.out; have := HL.out; omega)⟩⟩
         · go_enter Tryz.func98, Tryz.ntmps98
           go_wp2_with (first
            | (go_at_call 131; refine CA.out.mono ?_; rintro e w1 ⟨rfl, rfl⟩)
            | (go_at_call 93; refine CS.out.mono ?_; rintro e w1 ⟨rfl, rfl⟩))
           go_ret2
           have hE := HE.out
           have hL := HL.out
           exact ⟨rfl, .inr ⟨by rw [HN.out, hE]; rfl, by omega, Q0.out, Q1.out, by rw [HN.out]; omega, by rw [HN.out]; omega⟩⟩
     · have hf := (ftake_of l).2.1 (by omega) (fun q => h70 (by have := q.2; rw [hb1] at this; injection this with this; rw [this]; rfl))
       have HF := lH hf
       have NC : Hid (¬ fC l) := lH (fun q => h70 (by have := q.2.2.1; rw [hb1] at this; injection this with this; rw [this]; rfl))
       obtain ⟨z, hz⟩ : ∃ z : Int, ((b1.toNat : Nat) : Int) = z := ⟨_, rfl⟩
       rw [hz] at hc1
       have hz7 : ¬ z = 70 := by omega
       clear hx0 hx1 h199 h70 hcell hb0 hb1 hl h hf hz
       go_enter Tryz.func98, Tryz.ntmps98
       go_wp2_with fail
       go_ret2
       exact ⟨rfl, .inl ⟨NC.out, 4, by decide, rfl, HF.out⟩⟩
   · have hf := (ftake_of l).2.1 (by omega) (fun q => h199 (by have := q.1; rw [hb0] at this; injection this with this; rw [this]; rfl))
     have HF := lH hf
     have NC : Hid (¬ fC l) := lH (fun q => h199 (by have := q.2.1; rw [hb0] at this; injection this with this; rw [this]; rfl))
     obtain ⟨z, hz⟩ : ∃ z : Int, ((b0.toNat : Nat) : Int) = z := ⟨_, rfl⟩
     rw [hz] at hc0
     have hz7 : ¬ z = 199 := by omega
     clear hx0 hx1 h199 hcell hb0 hb1 hl h hf hz hc1
     go_enter Tryz.func98, Tryz.ntmps98
     go_wp2_with fail
     go_ret2
     exact ⟨rfl, .inl ⟨NC.out, 4, by decide, rfl, HF.out⟩⟩
theorem cellsB_all (l : List UInt8) : ∀ v ∈ (cellsB l).toArray.toList, v.oneCell' = true := by
 intro v hv
 have := Array.all_eq_true_iff_forall_mem.1 (cellsB_ones l) v (by simpa using hv)
 exact this
theorem ftake_no (w : World) (A : Option Addr) (n c : Nat) (l : List UInt8) (k : Int) (hk : k ≠ 0) (hf : ftake l = .no k)
 (he : Calls Tryz.prog 98 #[.slice A n c] (w.alloc (.cells (cellsB (zer 32)).toArray 56)) fun e w' => (w.alloc (.cells (cellsB (zer 32)).toArray 56)) = w' /\ e = .returned (.tuple #[.int .i64 0, .int .i64 k])) :
 Calls Tryz.prog 65 #[.slice A n c] w (RetTk w (ftake l)) := by
 rw [hf]
 have IV := lH (id_iv (zer 32) rfl)
 have CE := lH he
 clear hf he
 go_enter Tryz.func65, Tryz.ntmps65
 go_wp2_with (first
  | (go_at_call 98; refine CE.out.mono ?_; rintro e w1 ⟨rfl, rfl⟩)
  | (refine wpList_buildG rfl 56 rfl (cellsB (zer 32)).toArray built_id ?_)
  | (refine wpList_store_row rfl 56 (.tmp 2) (.tmp 19) rfl w.heap.size (cellsB (zer 32)).toArray rfl rfl 56 _ (Bw.new w (zer 32) 56) IV.out rfl (cellsB_ones _) ?_))
 refine bodyPost_ret (v := .tuple #[.agg (cellsB (zer 32)).toArray, .slice none 0 0, .int .i64 0, .int .i64 k]) ?_ (by rfl) ?_
 · exact results_cell_row4 (p := 2) (u := 3) (v := 4) (y := 5) (ty := 56) rfl _ _ w.heap.size 56 (cellsB (zer 32)).toArray _ _ rfl (setRow_heap _ _ _ _ 56 _ (Bw.new w (zer 32) 56)) Tryz.underlying56 rfl IV.out _ _ _ rfl rfl rfl
 · exact ⟨none, 0, 0, rfl, OwnB.nil _ _, box_below w (zer 32)⟩
theorem ftake_yes (w : World) (g o n c : Nat) (l : List UInt8) (h : HasB w w.heap.size (some ⟨g, o, none⟩) n l) (hc : n <= c) (hcm : c <= 2 ^ 63 - 1) (hn : n <= 1073741824)
 (h4 : fN l <= 4200) (h5 : 46 + fN l <= l.length) (he : Calls Tryz.prog 98 #[.slice (some ⟨g, o, none⟩) n c] (w.alloc (.cells (cellsB (zer 32)).toArray 56)) fun e w' => (w.alloc (.cells (cellsB (zer 32)).toArray 56)) = w' /\ e = .returned (.tuple #[.int .i64 ((46 + fN l : Nat) : Int), .int .i64 0])) :
 Calls Tryz.prog 65 #[.slice (some ⟨g, o, none⟩) n c] w (RetTk w (if frS (fK l) (fB l) = fT l then ⟨fK l, fB l, 46 + fN l, 0⟩ else .no 11)) := by
 have hl := h.len
 have hg : g < w.heap.size := by
  obtain ⟨g', o', e, hg, _⟩ := h.2 (by omega)
  simp only [Option.some.injEq, Addr.mk.injEq, and_true] at e
  omega
 have hkl := fK_len l (by omega)
 have htl := fT_len l (by omega)
 have hbl := fB_len l h5
 have hsl := frS_len (fK l) (fB l)
 have LT : Hid (∀ W, HasB W W.heap.size (some ⟨g, o, none⟩) n l -> (loadVar 174 ⟨g, o + 6, none⟩).run Tryz.prog W = .ok (.agg (cellsB (fT l)).toArray) W) := lH (fun W hW => hW.load_ckAt (k := 6) (by omega))
 have LK : Hid (∀ W, HasB W W.heap.size (some ⟨g, o, none⟩) n l -> (loadVar 56 ⟨g, o + 14, none⟩).run Tryz.prog W = .ok (.agg (cellsB (fK l)).toArray) W) := lH (fun W hW => hW.load_idAt (k := 14) (by omega))
 obtain ⟨Ab, hAb⟩ : ∃ Ab, (if 46 + fN l = 46 then some (⟨g, o, none⟩ : Addr) else some ⟨g, o + 46, none⟩) = Ab := ⟨_, rfl⟩
 have WIN : Hid (∀ W, HasB W W.heap.size (some ⟨g, o, none⟩) n l -> HasB W W.heap.size Ab (fN l) (fB l)) := lH (fun W hW => by
  have := hW.window (k := 46) (s := fN l) (by omega) (A' := Ab) (m := fN l) rfl (fun hp => by rw [<- hAb, if_neg (by omega)])
  exact this)
 obtain ⟨N, hN⟩ : ∃ N, fN l = N := ⟨_, rfl⟩
 obtain ⟨K, hK⟩ : ∃ K, fK l = K := ⟨_, rfl⟩
 obtain ⟨V, hV⟩ : ∃ V, fB l = V := ⟨_, rfl⟩
 obtain ⟨T, hT⟩ : ∃ T, fT l = T := ⟨_, rfl⟩
 obtain ⟨F, hF⟩ : ∃ F, frS K V = F := ⟨_, rfl⟩
 rw [hN] at h4 h5 he hbl WIN hAb
 rw [hK] at hkl hsl LK
 rw [hV] at hbl hsl WIN
 rw [hT] at htl LT
 rw [hF] at hsl
 rw [hN, hK, hV, hT, hF]
 obtain ⟨E, hE⟩ : ∃ E, 46 + N = E := ⟨_, rfl⟩
 rw [hE] at h5 he hAb ⊢
 obtain ⟨R, hR⟩ : ∃ R : TK, (if F = T then (⟨K, V, E, 0⟩ : TK) else .no 11) = R := ⟨_, rfl⟩
 rw [hR]
 have HR := lH hR
 clear hR
 have hE1 : 46 <= E := by omega
 have hE2 : E <= 4246 := by omega
 have hE3 : E <= n := by omega
 have hE4 : E - 46 = N := by omega
 have EN := lH hE4
 have CC : Hid (∀ W (A : Option Addr) (q d : Nat), HasB W W.heap.size A q V -> q <= d -> q <= 4200 -> Calls Tryz.prog 99 #[.agg (cellsB K).toArray, .slice A q d] W fun e w' => e = .returned (.agg (cellsB F).toArray) /\ Below W.heap.size W w') := lH (fun W A q d hA h1 h2 => by rw [<- hF]; exact check_any W A q d K V hA h1 h2 hkl)
 have CE := lH he
 have HH := lH h
 have KL := lH hkl
 have TL := lH htl
 have FL := lH hsl
 have VL := lH hbl
 have IK := lH (id_iv K hkl)
 have KZ := lH (id_hz K hkl)
 have IZ := lH (id_iv (zer 32) rfl)
 have TV := lH (ck_iv T htl)
 have TZ := lH (ck_hz T htl)
 have NE : Hid (∀ W, (binOp .neq 174 (.agg (cellsB T).toArray) (.agg (cellsB F).toArray)).run Tryz.prog W = .ok (.bool (!decide (T = F))) W) := lH (fun W => neq_ck T F htl hsl W)
 clear hN hK hV hT hF hE h hl hkl htl hbl hsl he hE4 h4 h5
 go_enter Tryz.func65, Tryz.ntmps65
 go_upto_region 5 with (first
  | (go_at_call 98; refine CE.out.mono ?_; rintro e w1 ⟨rfl, rfl⟩))
 generalize hW1 : World.alloc _ _ = W1
 have b1 : Below w.heap.size w W1 := by rw [<- hW1]; exact (Below.refl _ w).alloc (Nat.le_refl _) _
 have z1 : Bw W1 w.heap.size 56 (zer 32) := by rw [<- hW1]; exact Bw.new w (zer 32) _
 have B1 := lH b1
 have Z1 := lH z1
 have H1 := lH (HH.out.on b1)
 clear b1 z1 hW1
 go_cut [9, 10, 11] (fun s9 s10 s11 wx => ∃ g9 g10, s9 = .pointer (some ⟨g9, 0, none⟩) /\ s10 = .pointer (some ⟨g10, 0, none⟩) /\ s11 = .slice Ab (E - 46) (E - 46) /\ w.heap.size < g9 /\ w.heap.size < g10 /\ Bw wx g9 174 T /\ Bw wx g10 56 K /\ Below W1.heap.size W1 wx)
 case first =>
  go_wp2_with fail
  refine wp_region_held_drew (S := fun W => Below W1.heap.size W1 W) (by kernel_rfl) (Below.refl _ W1).drew (fun hHeld => ?_)
  refine tk9 (i := 0) (h := ?_)
  try simp only [aP,aN,aS,aZ,aC]
  refine wpAnyH_take (i := 1) (v := .slice (some ⟨g, o + 6, none⟩) 8 8) (by simp only [List.getElem?_toArray, List.getElem?_cons_succ, List.getElem?_cons_zero]; rfl) (by kernel_rfl) (by kernel_rfl) (by kernel_rfl) (by exact fun _ _ _ h => h) (Or.inl ⟨by rfl, ?h1a⟩) (by assumption) ?_
  case h1a => (intro W hSw; (try dsimp only at hSw); go_simp; try (first | (rw [if_pos (by omega)]; done) | (rw [if_pos (by omega)]; rfl) | (intro hbad; omega)))
  try simp only [aP,aN,aS,aZ,aC]
  refine tk9 (i := 2) (hy := (yieldsIf_arrAt (by rfl) 174 _ 8 (.tmp 26) rfl Tryz.underlying174 _ _ _ rfl (Nat.le_refl _))) (h := ?_)
  try simp only [aP,aN,aS,aZ,aC]
  refine tk9 (i := 3) (hy := (yieldsIf_loadG (by rfl) 174 (.tmp 27) rfl ⟨g, o + 6, none⟩ rfl _ (fun W hW => LT.out W (H1.out.on hW)))) (h := ?_)
  try simp only [aP,aN,aS,aZ,aC]
  refine tk9 (i := 4) (h := ?_)
  try simp only [aP,aN,aS,aZ,aC]
  refine wpAnyH_take (i := 5) (v := .slice (some ⟨g, o + 14, none⟩) 32 32) (by simp only [List.getElem?_toArray, List.getElem?_cons_succ, List.getElem?_cons_zero]; rfl) (by kernel_rfl) (by kernel_rfl) (by kernel_rfl) (by exact fun _ _ _ h => h) (Or.inl ⟨by rfl, ?h5a⟩) (by assumption) ?_
  case h5a => (intro W hSw; (try dsimp only at hSw); go_simp; try (first | (rw [if_pos (by omega)]; done) | (rw [if_pos (by omega)]; rfl) | (intro hbad; omega)))
  try simp only [aP,aN,aS,aZ,aC]
  refine tk9 (i := 6) (hy := (yieldsIf_arrAt (by rfl) 56 _ 32 (.tmp 30) rfl Tryz.underlying56 _ _ _ rfl (Nat.le_refl _))) (h := ?_)
  try simp only [aP,aN,aS,aZ,aC]
  refine tk9 (i := 7) (hy := (yieldsIf_loadG (by rfl) 56 (.tmp 31) rfl ⟨g, o + 14, none⟩ rfl _ (fun W hW => LK.out W (H1.out.on hW)))) (h := ?_)
  try simp only [aP,aN,aS,aZ,aC]
  refine tk9 (i := 8) (h := ?_)
  try simp only [aP,aN,aS,aZ,aC]
  refine wpAnyH_take (i := 9) (v := .slice Ab (E - 46) (E - 46)) (by simp only [List.getElem?_toArray, List.getElem?_cons_succ, List.getElem?_cons_zero]; rfl) (by kernel_rfl) (by kernel_rfl) (by kernel_rfl) (by exact fun _ _ _ h => h) (Or.inl ⟨by rfl, ?h9a⟩) (by assumption) ?_
  case h9a => (intro W hSw; (try dsimp only at hSw); go_simp; try (first | (rw [if_pos (by omega), hAb]; done) | (rw [if_pos (by omega)]; rfl) | (intro hbad; omega)))
  try simp only [aP,aN,aS,aZ,aC]
  have Su0 : Below W1.heap.size W1 W1.drew := (Below.refl _ W1).drew
  obtain ⟨u0, hu0⟩ : ∃ u0, W1.drew = u0 := ⟨_, rfl⟩
  rw [hu0] at Su0 ⊢
  have lw : w.heap.size < W1.heap.size := Z1.out.lt
  clear hu0
  refine wpAnyH_ready (rs := [10, 11]) (by kernel_rfl) (by simp) ?_
  refine AllReadyH.cons (by simp only [List.getElem?_toArray, List.getElem?_cons_succ, List.getElem?_cons_zero]; rfl) (fun Kq hK => ?_) (AllReadyH.cons (by simp only [List.getElem?_toArray, List.getElem?_cons_succ, List.getElem?_cons_zero]; rfl) (fun Kq hK => ?_) AllReadyH.nil)
  · go_simp
    generalize hWa : World.alloc _ _ = u1
    have Su1 : Below W1.heap.size W1 u1 := by rw [<- hWa]; exact Below.alloc Su0 Su0.size _
    have nc : Bw u1 u0.heap.size 174 (zer 8) := by rw [<- hWa]; exact Bw.new u0 (zer 8) _
    have lc := Su0.size
    have mc : u0.heap.size < u1.heap.size := nc.lt
    clear hWa
    refine hK _ _ Su1 (fun hH10 => ?_)
    clear hK Kq
    try simp only [aP,aN,aS,aZ,aC]
    refine wpAnyH_ready (rs := [11]) (by kernel_rfl) (by simp) ?_
    refine AllReadyH.cons (by simp only [List.getElem?_toArray, List.getElem?_cons_succ, List.getElem?_cons_zero]; rfl) (fun Kq hK => ?_) AllReadyH.nil
    go_simp
    generalize hWa : World.alloc _ _ = u2
    have Su2 : Below W1.heap.size W1 u2 := by rw [<- hWa]; exact Below.alloc Su1 Su1.size _
    have ni : Bw u2 u1.heap.size 56 (zer 32) := by rw [<- hWa]; exact Bw.new u1 (zer 32) _
    have li := Su1.size
    have mi : u1.heap.size < u2.heap.size := ni.lt
    have nc := Bw.below nc (show Below u1.heap.size u1 u2 by rw [<- hWa]; exact (Below.refl _ _).alloc (Nat.le_refl _) _) nc.lt
    clear hWa
    refine hK _ _ Su2 (fun hH11 => ?_)
    clear hK Kq
    try simp only [aP,aN,aS,aZ,aC]
    refine wpAnyH_ready (rs := [12]) (by kernel_rfl) (by simp) ?_
    refine AllReadyH.cons (by simp only [List.getElem?_toArray, List.getElem?_cons_succ, List.getElem?_cons_zero]; rfl) (fun Kq hK => ?_) AllReadyH.nil
    refine step_store_row (by rfl) 174 (.tmp 9) (.tmp 28) rfl (u0.heap.size) (cellsB T).toArray rfl rfl 174 _ nc TV.out TZ.out (cellsB_all _) ?_
    generalize hWa : World.setRow _ _ _ = u3
    have Su3 : Below W1.heap.size W1 u3 := by rw [<- hWa]; exact below_setRow Su2 (by omega) _
    have zc : Bw u3 (u0.heap.size) 174 T := by rw [<- hWa]; exact Bw.row (m := T) nc
    have ni := Bw.rowFar ni (show u1.heap.size ≠ u0.heap.size by omega) (cellsB T).toArray
    rw [hWa] at ni
    skip
    clear hWa
    refine hK _ _ Su3 (fun hH12 => ?_)
    clear hK Kq
    try simp only [aP,aN,aS,aZ,aC]
    refine wpAnyH_ready (rs := [13]) (by kernel_rfl) (by simp) ?_
    refine AllReadyH.cons (by simp only [List.getElem?_toArray, List.getElem?_cons_succ, List.getElem?_cons_zero]; rfl) (fun Kq hK => ?_) AllReadyH.nil
    refine step_store_row (by rfl) 56 (.tmp 10) (.tmp 32) rfl (u1.heap.size) (cellsB K).toArray rfl rfl 56 _ ni IK.out KZ.out (cellsB_all _) ?_
    generalize hWa : World.setRow _ _ _ = u4
    have Su4 : Below W1.heap.size W1 u4 := by rw [<- hWa]; exact below_setRow Su3 (by omega) _
    have zi : Bw u4 (u1.heap.size) 56 K := by rw [<- hWa]; exact Bw.row (m := K) ni
    have zc := Bw.rowFar zc (show u0.heap.size ≠ u1.heap.size by omega) (cellsB K).toArray
    rw [hWa] at zc
    clear hWa
    refine hK _ _ Su4 (fun hH13 => ?_)
    clear hK Kq
    try simp only [aP,aN,aS,aZ,aC]
    refine tk9 (i := 14) (h := ?_)
    try simp only [aP,aN,aS,aZ,aC]
    refine wpAnyH_done (by kernel_rfl) ?_ _
    go_wp2_with fail
    go_meet
    exact ⟨u0.heap.size, u1.heap.size, rfl, rfl, rfl, by omega, by omega, zc, zi, Su4⟩
  · go_simp
    generalize hWa : World.alloc _ _ = u1
    have Su1 : Below W1.heap.size W1 u1 := by rw [<- hWa]; exact Below.alloc Su0 Su0.size _
    have ni : Bw u1 u0.heap.size 56 (zer 32) := by rw [<- hWa]; exact Bw.new u0 (zer 32) _
    have li := Su0.size
    have mi : u0.heap.size < u1.heap.size := ni.lt
    clear hWa
    refine hK _ _ Su1 (fun hH11 => ?_)
    clear hK Kq
    try simp only [aP,aN,aS,aZ,aC]
    refine wpAnyH_ready (rs := [10]) (by kernel_rfl) (by simp) ?_
    refine AllReadyH.cons (by simp only [List.getElem?_toArray, List.getElem?_cons_succ, List.getElem?_cons_zero]; rfl) (fun Kq hK => ?_) AllReadyH.nil
    go_simp
    generalize hWa : World.alloc _ _ = u2
    have Su2 : Below W1.heap.size W1 u2 := by rw [<- hWa]; exact Below.alloc Su1 Su1.size _
    have nc : Bw u2 u1.heap.size 174 (zer 8) := by rw [<- hWa]; exact Bw.new u1 (zer 8) _
    have lc := Su1.size
    have mc : u1.heap.size < u2.heap.size := nc.lt
    have ni := Bw.below ni (show Below u1.heap.size u1 u2 by rw [<- hWa]; exact (Below.refl _ _).alloc (Nat.le_refl _) _) ni.lt
    clear hWa
    refine hK _ _ Su2 (fun hH10 => ?_)
    clear hK Kq
    try simp only [aP,aN,aS,aZ,aC]
    refine wpAnyH_ready (rs := [12]) (by kernel_rfl) (by simp) ?_
    refine AllReadyH.cons (by simp only [List.getElem?_toArray, List.getElem?_cons_succ, List.getElem?_cons_zero]; rfl) (fun Kq hK => ?_) AllReadyH.nil
    refine step_store_row (by rfl) 174 (.tmp 9) (.tmp 28) rfl (u1.heap.size) (cellsB T).toArray rfl rfl 174 _ nc TV.out TZ.out (cellsB_all _) ?_
    generalize hWa : World.setRow _ _ _ = u3
    have Su3 : Below W1.heap.size W1 u3 := by rw [<- hWa]; exact below_setRow Su2 (by omega) _
    have zc : Bw u3 (u1.heap.size) 174 T := by rw [<- hWa]; exact Bw.row (m := T) nc
    have ni := Bw.rowFar ni (show u0.heap.size ≠ u1.heap.size by omega) (cellsB T).toArray
    rw [hWa] at ni
    skip
    clear hWa
    refine hK _ _ Su3 (fun hH12 => ?_)
    clear hK Kq
    try simp only [aP,aN,aS,aZ,aC]
    refine wpAnyH_ready (rs := [13]) (by kernel_rfl) (by simp) ?_
    refine AllReadyH.cons (by simp only [List.getElem?_toArray, List.getElem?_cons_succ, List.getElem?_cons_zero]; rfl) (fun Kq hK => ?_) AllReadyH.nil
    refine step_store_row (by rfl) 56 (.tmp 10) (.tmp 32) rfl (u0.heap.size) (cellsB K).toArray rfl rfl 56 _ ni IK.out KZ.out (cellsB_all _) ?_
    generalize hWa : World.setRow _ _ _ = u4
    have Su4 : Below W1.heap.size W1 u4 := by rw [<- hWa]; exact below_setRow Su3 (by omega) _
    have zi : Bw u4 (u0.heap.size) 56 K := by rw [<- hWa]; exact Bw.row (m := K) ni
    have zc := Bw.rowFar zc (show u1.heap.size ≠ u0.heap.size by omega) (cellsB K).toArray
    rw [hWa] at zc
    clear hWa
    refine hK _ _ Su4 (fun hH13 => ?_)
    clear hK Kq
    try simp only [aP,aN,aS,aZ,aC]
    refine tk9 (i := 14) (h := ?_)
    try simp only [aP,aN,aS,aZ,aC]
    refine wpAnyH_done (by kernel_rfl) ?_ _
    go_wp2_with fail
    go_meet
    exact ⟨u1.heap.size, u0.heap.size, rfl, rfl, rfl, by omega, by omega, zc, zi, Su4⟩
 case rest =>
  obtain ⟨g9, g10, rfl, rfl, rfl, hg9, hg10, k9, k10, bx⟩ := hcut
  rw [EN.out]
  have K9 := lH k9
  have K10 := lH k10
  have Z2 := lH (Z1.out.below bx Z1.out.lt)
  have B2 := lH (B1.out.trans (bx.mono B1.out.size))
  have H2 := lH (WIN.out _ (H1.out.on bx))
  have hN : N <= 4200 := by have := EN.out; omega
  clear k9 k10 bx
  by_cases hq : F = T
  · have HQ := lH hq
    have NE2 : Hid (∀ W, (binOp .neq 174 (.agg (cellsB T).toArray) (.agg (cellsB F).toArray)).run Tryz.prog W = .ok (.bool false) W) := lH (fun W => by rw [NE.out W, decide_eq_true hq.symm]; rfl)
    have EN2 : Hid (E = 46 + N) := lH (by have := EN.out; omega)
    clear hq
    go_wp2_with fail
    refine wp_region_held_drew (S := fun W => Below wc.heap.size wc W) (by kernel_rfl) (Below.refl _ wc).drew (fun hHeld => ?_)
    refine tk9 (i := 0) (hy := (yieldsIf_loadG (by rfl) 174 (.tmp 9) rfl ⟨g9, 0, none⟩ rfl _ (fun W hW => (K9.out.below hW K9.out.lt).loadCk TL.out))) (h := ?_)
    try simp only [aP,aN,aS,aZ,aC]
    refine tk9 (i := 1) (hy := (yieldsIf_loadG (by rfl) 56 (.tmp 10) rfl ⟨g10, 0, none⟩ rfl _ (fun W hW => (K10.out.below hW K10.out.lt).load KL.out))) (h := ?_)
    try simp only [aP,aN,aS,aZ,aC]
    refine tk9 (i := 2) (h := ?_)
    try simp only [aP,aN,aS,aZ,aC]
    refine wpAnyH_ready (rs := [3]) (by kernel_rfl) (by simp) ?_
    refine AllReadyH.cons (by simp only [List.getElem?_toArray, List.getElem?_cons_succ, List.getElem?_cons_zero]; rfl) (fun Kq hK => ?_) AllReadyH.nil
    go_simp
    refine (CC.out _ _ N N (H2.out.on (Below.refl _ wc).drew) (Nat.le_refl _) hN).mono ?_
    rintro en w6 ⟨rfl, b6⟩
    have S6 : Below wc.heap.size wc w6 := ((Below.refl wc.heap.size wc).drew).trans (b6.mono (Nat.le_refl _))
    refine hK _ _ S6 (fun hH3 => ?_)
    clear hK Kq
    try simp only [aP,aN,aS,aZ,aC]
    refine tk9 (i := 4) (hy := (yieldsIf_bin (by rfl) .neq 174 174 (.tmp 35) (.tmp 38) rfl (.agg (cellsB T).toArray) (.agg (cellsB F).toArray) (.bool false) rfl rfl (guard_neq_ck _ _ _ _) (fun W => NE2.out W))) (h := ?_)
    try simp only [aP,aN,aS,aZ,aC]
    refine wpAnyH_done (by kernel_rfl) ?_ _
    have Z6 := lH (Z2.out.below S6 Z2.out.lt)
    have K6 := lH (K10.out.below S6 K10.out.lt)
    have B6 := lH (B2.out.trans (S6.mono B2.out.size))
    have H6 := lH (H2.out.on S6)
    have L6 : w.heap.size < w6.heap.size := Z6.out.lt
    clear S6 b6
    go_wp2_with fail
    have hS0 : Bw w6.drew g10 56 K := K6.out
    refine wp_region_held_drew (S := fun W => Bw W g10 56 K) (by kernel_rfl) hS0 (fun hHeld => ?_)
    refine tk9 (i := 0) (hy := (yieldsIf_loadG (by rfl) 56 (.tmp 10) rfl ⟨g10, 0, none⟩ rfl _ (fun W hW => hW.load KL.out))) (h := ?_)
    try simp only [aP,aN,aS,aZ,aC]
    refine tk9 (i := 1) (h := ?_)
    try simp only [aP,aN,aS,aZ,aC]
    refine tk9 (i := 3) (h := ?_)
    try simp only [aP,aN,aS,aZ,aC]
    refine wpAnyH_ready (rs := [2]) (by kernel_rfl) (by simp) ?_
    refine AllReadyH.cons (by simp only [List.getElem?_toArray, List.getElem?_cons_succ, List.getElem?_cons_zero]; rfl) (fun Kq hK => ?_) AllReadyH.nil
    go_simp
    refine (bclone_any _ _ _ V _ (H6.out.on (Below.refl _ w6).drew) (by omega)).mono ?_
    rintro en w7 ⟨A7, n7, c7, rfl, o7, b7⟩
    have b67 : Below w6.heap.size w6 w7 := ((Below.refl w6.heap.size w6).drew).trans (b7.mono (Nat.le_refl _))
    have K7 : Bw w7 g10 56 K := K6.out.below b67 K6.out.lt
    refine hK _ _ K7 (fun hH2 => ?_)
    clear hK Kq
    try simp only [aP,aN,aS,aZ,aC]
    refine wpAnyH_ready (rs := [4]) (by kernel_rfl) (by simp) ?_
    refine AllReadyH.cons (by simp only [List.getElem?_toArray, List.getElem?_cons_succ, List.getElem?_cons_zero]; rfl) (fun Kq hK => ?_) AllReadyH.nil
    have QZ := Z6.out.below b67 Z6.out.lt
    refine step_store_row (by rfl) 56 (.tmp 2) (.tmp 41) rfl w.heap.size (cellsB K).toArray rfl rfl 56 _ QZ IK.out KZ.out (cellsB_all _) ?_
    have K8 : Bw (w7.setRow w.heap.size (cellsB K).toArray) g10 56 K := Bw.rowFar K7 (by omega) _
    refine hK _ _ K8 (fun hH4 => ?_)
    clear hK Kq
    try simp only [aP,aN,aS,aZ,aC]
    refine tk9 (i := 5) (h := ?_)
    try simp only [aP,aN,aS,aZ,aC]
    refine tk9 (i := 6) (h := ?_)
    try simp only [aP,aN,aS,aZ,aC]
    refine tk9 (i := 7) (h := ?_)
    try simp only [aP,aN,aS,aZ,aC]
    refine wpAnyH_done (by kernel_rfl) ?_ _
    go_wp2_with fail
    have Z8 := setRow_heap _ _ _ (cellsB K).toArray 56 _ QZ
    have O8 : OwnB (w7.setRow w.heap.size (cellsB K).toArray) w.heap.size (.slice A7 n7 c7) V := (o7.rowFar (show w.heap.size < w6.heap.size from L6) _).less (show w.heap.size <= w6.heap.size by omega)
    have B8 : Below w.heap.size w (w7.setRow w.heap.size (cellsB K).toArray) := below_setRow (B6.out.trans (b67.mono B6.out.size)) (Nat.le_refl _) _
    refine bodyPost_ret (v := .tuple #[.agg (cellsB K).toArray, .slice A7 n7 c7, .int .i64 (E : Int), .int .i64 0]) ?_ (by rfl) ?_
    · exact results_cell_row4 (p := 2) (u := 3) (v := 4) (y := 5) (ty := 56) rfl _ _ w.heap.size 56 (cellsB K).toArray _ _ rfl Z8 Tryz.underlying56 rfl IK.out _ _ _ rfl rfl rfl
    · rw [<- HR.out, if_pos HQ.out]
      exact ⟨A7, n7, c7, rfl, O8, B8⟩
  · have HQ := lH hq
    have NE2 : Hid (∀ W, (binOp .neq 174 (.agg (cellsB T).toArray) (.agg (cellsB F).toArray)).run Tryz.prog W = .ok (.bool true) W) := lH (fun W => by rw [NE.out W, decide_eq_false (fun h => hq h.symm)]; rfl)
    clear hq
    go_wp2_with fail
    refine wp_region_held_drew (S := fun W => Below wc.heap.size wc W) (by kernel_rfl) (Below.refl _ wc).drew (fun hHeld => ?_)
    refine tk9 (i := 0) (hy := (yieldsIf_loadG (by rfl) 174 (.tmp 9) rfl ⟨g9, 0, none⟩ rfl _ (fun W hW => (K9.out.below hW K9.out.lt).loadCk TL.out))) (h := ?_)
    try simp only [aP,aN,aS,aZ,aC]
    refine tk9 (i := 1) (hy := (yieldsIf_loadG (by rfl) 56 (.tmp 10) rfl ⟨g10, 0, none⟩ rfl _ (fun W hW => (K10.out.below hW K10.out.lt).load KL.out))) (h := ?_)
    try simp only [aP,aN,aS,aZ,aC]
    refine tk9 (i := 2) (h := ?_)
    try simp only [aP,aN,aS,aZ,aC]
    refine wpAnyH_ready (rs := [3]) (by kernel_rfl) (by simp) ?_
    refine AllReadyH.cons (by simp only [List.getElem?_toArray, List.getElem?_cons_succ, List.getElem?_cons_zero]; rfl) (fun Kq hK => ?_) AllReadyH.nil
    go_simp
    refine (CC.out _ _ N N (H2.out.on (Below.refl _ wc).drew) (Nat.le_refl _) hN).mono ?_
    rintro en w6 ⟨rfl, b6⟩
    have S6 : Below wc.heap.size wc w6 := ((Below.refl wc.heap.size wc).drew).trans (b6.mono (Nat.le_refl _))
    refine hK _ _ S6 (fun hH3 => ?_)
    clear hK Kq
    try simp only [aP,aN,aS,aZ,aC]
    refine tk9 (i := 4) (hy := (yieldsIf_bin (by rfl) .neq 174 174 (.tmp 35) (.tmp 38) rfl (.agg (cellsB T).toArray) (.agg (cellsB F).toArray) (.bool true) rfl rfl (guard_neq_ck _ _ _ _) (fun W => NE2.out W))) (h := ?_)
    try simp only [aP,aN,aS,aZ,aC]
    refine wpAnyH_done (by kernel_rfl) ?_ _
    have Z6 := lH (Z2.out.below S6 Z2.out.lt)
    have K6 := lH (K10.out.below S6 K10.out.lt)
    have B6 := lH (B2.out.trans (S6.mono B2.out.size))
    have H6 := lH (H2.out.on S6)
    have L6 : w.heap.size < w6.heap.size := Z6.out.lt
    clear S6 b6
    go_wp2_with (first
     | (refine wpList_buildG rfl 56 rfl (cellsB (zer 32)).toArray built_id ?_)
     | (refine wpList_store_row rfl 56 (.tmp 2) (.tmp 40) rfl w.heap.size (cellsB (zer 32)).toArray rfl rfl 56 _ Z6.out IZ.out rfl (cellsB_ones _) ?_))
    refine bodyPost_ret (v := .tuple #[.agg (cellsB (zer 32)).toArray, .slice none 0 0, .int .i64 0, .int .i64 11]) ?_ (by rfl) ?_
    · exact results_cell_row4 (p := 2) (u := 3) (v := 4) (y := 5) (ty := 56) rfl _ _ w.heap.size 56 (cellsB (zer 32)).toArray _ _ rfl (setRow_heap _ _ _ _ 56 _ Z6.out) Tryz.underlying56 rfl IZ.out _ _ _ rfl rfl rfl
    · rw [<- HR.out, if_neg HQ.out]
      exact ⟨none, 0, 0, rfl, OwnB.nil _ _, below_setRow B6.out (Nat.le_refl _) _⟩
theorem ftake_any (w : World) (A : Option Addr) (n c : Nat) (l : List UInt8) (h : HasB w w.heap.size A n l) (hc : n <= c) (hcm : c <= maxLen) (hn : n <= 1073741824) :
 Calls Tryz.prog 65 #[.slice A n c] w (RetTk w (ftake l)) := by
 have hl := h.len
 have he := end_any A n c l (w.alloc (.cells (cellsB (zer 32)).toArray 56)) (h.on ((Below.refl _ w).alloc (Nat.le_refl _) _)) hc hcm hn
 by_cases hC : fC l
 · rw [ftake_good l hC]
   obtain ⟨g, o, rfl, hg, _⟩ := h.2 (by have := hC.1; omega)
   refine ftake_yes w g o n c l h hc (by unfold maxLen at hcm; omega) hn hC.2.2.2.1 hC.2.2.2.2 (he.mono ?_)
   rintro en w1 ⟨h0, h1⟩
   rcases h1 with ⟨nc, _⟩ | ⟨h1, _⟩
   · exact absurd hC nc
   · exact ⟨h0, h1⟩
 · obtain ⟨k, hk, hf⟩ := ftake_bad l hC
   refine ftake_no w A n c l k hk hf (he.mono ?_)
   rintro en w1 ⟨h0, h1⟩
   rcases h1 with ⟨_, k', hk', h1, hf'⟩ | ⟨_, hC'⟩
   · rw [hf] at hf'
     have : k = k' := congrArg TK.e hf'
     rw [this]
     exact ⟨h0, h1⟩
   · exact absurd hC' hC
theorem theFK : FK where
 size_any := fun w n hn => (fsize_any w n hn).mono fun e w' h => ⟨h.1, by rw [<- h.2]; exact Below.refl _ _⟩
 put_any := fun w A n c key l h hc hcm hn hk => fput_any w A n c key l h hc hn hk
 take_any := fun w A n c l h hc hcm hn => ftake_any w A n c l h hc hcm hn
end Go.Proofs.YthoebjekkfhhgaaGreat
