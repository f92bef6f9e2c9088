/-
  Own work. The journal's anchors and headers: row, markOf, anchor, header.
-/
import Derived.Test.YtkbbpkbchniddaaJm
namespace Go.Proofs.Ytkbbpkbchniddaa
open Go.RowKit
set_option linter.unusedVariables false
set_option linter.unusedSimpArgs false

theorem stillA {P : Program} {o : Oper} {a : Act} {w : World} {K : Act → Prop} {arr : TypeId} {x : Operand} (ho : o.op = .sliceToArrayPointer arr x) {v : Value} (hr : (Instr.arrayAt arr (a.eval x)).run P w = .ok v w) (h : K (a.put o.dst v)) : o.still P a w K := by
  unfold Oper.still execOp
  simp only [ho, Sem.run_bind, Sem.run_pure, Result.andThen_ok, hr]
  exact ⟨rfl, h⟩
theorem stillLd {P : Program} {o : Oper} {a : Act} {w : World} {K : Act → Prop} {ty : TypeId} {x : Operand} (ho : o.op = .load ty x) {ad : Addr} (hy : a.eval x = .pointer (some ad)) {v : Value} (hr : (loadVar ty ad).run P w = .ok v w) (h : K (a.put o.dst v)) : o.still P a w K := by
  unfold Oper.still execOp
  simp only [ho, hy, Instr.loadAt, Instr.sureAddr, Sem.run_bind, Sem.run_pure, Result.andThen_ok, hr]
  exact ⟨rfl, h⟩
theorem RetW.still {f : FuncId} {args : Array Value} {w : World} {v : Value} (h : Calls Try.prog f args w (RetW w v)) : Calls Try.prog f args w (fun e w'' => e = .returned v ∧ w'' = w) := h.mono fun _ _ ⟨h1, h2⟩ => ⟨h1, h2.symm⟩
/-- Eight bytes of a block loaded as an array. -/
theorem load_eight {w : World} {g p : Nat} {t : TypeId} {s : List UInt8} (hB : Bw w g t s) (hp : p + 8 ≤ s.length) : (loadVar 126 ⟨g, p, none⟩).run Try.prog w = .ok (.agg (cellsB (sub s p 8)).toArray) w := by
  have hl : (sub s p 8).length = 8 := sub_len hp
  refine run_loadVar_part w g p t _ (cellsB s) (cellsB (sub s p 8)) (0, 0) _ hB Try.underlying126 rfl (by rw [cellsB_length, hl]; kernel_rfl) (fun j v hv => ?_)
  obtain ⟨b, hb, rfl⟩ := cellsB_at hv
  unfold sub at hb
  rw [List.getElem?_take] at hb
  split at hb
  · rw [List.getElem?_drop] at hb
    unfold cellsB
    rw [List.getElem?_map, hb]
    rfl
  · cases hb
theorem res_tc {fn : Func} {p q : Tmp} {ty : TypeId} (h : fn.results = #[.tmp p, .cell q ty]) (tmps : Array Value) (w : World) (g : Nat) (v u : Value) (hp : tmps.getD p undef = v)
    (hq : tmps.getD q undef = .pointer (some ⟨g, 0, none⟩)) (hl : (loadVar ty ⟨g, 0, none⟩).run Try.prog w = .ok u w) :
    (results fn tmps).run Try.prog w = .ok (.tuple #[v, u]) w := by
  have hp' : tmps[p]?.getD undef = v := by simpa using hp
  have hq' : tmps[q]?.getD undef = .pointer (some ⟨g, 0, none⟩) := by simpa using hq
  simp [results, h, hp', hq', asAddr, hl]
section
variable {w : World} {g : Nat} {s : List UInt8}
set_option maxRecDepth 100000 in
theorem row_any (k : Nat) (h : Bw w g 97 s) (hs : s.length = 512) (hk : k < 40) :
    Calls Try.prog 79 #[.pointer (some ⟨g, 0, none⟩), .int .i64 (k : Int)] w (RetV2 w (.tuple #[.int .i64 (num (sub s (16 + 12 * k) 4) : Nat), .agg (cellsB (sub s (16 + 12 * k + 4) 8)).toArray])) := by
  obtain ⟨w0, hw0⟩ : ∃ w0, w.alloc (.cells #[.int .u8 0, .int .u8 0, .int .u8 0, .int .u8 0, .int .u8 0, .int .u8 0, .int .u8 0, .int .u8 0] 126) = w0 := ⟨_, rfl⟩
  have hb : Below w.heap.size w w0 := by rw [← hw0]; exact (Below.refl _ _).alloc (Nat.le_refl _) _
  have h1 : Bw w0 g 97 s := by rw [← hw0]; exact h.alloc _
  have h2 : Bw w0 w.heap.size 126 (zer 8) := by rw [← hw0]; exact Bw.new w (zer 8) _
  obtain ⟨p, hp⟩ : ∃ p, 16 + 12 * k = p := ⟨_, rfl⟩
  have hp1 : p + 12 ≤ 512 := by omega
  have hp2 : (16 : Int) + 12 * (k : Int) = (p : Int) := by omega
  have hx : num (sub s p 4) < 4294967296 := by
    have := num_lt (sub s p 4)
    rw [sub_len (by omega)] at this
    omega
  have hl8 : (sub s (p + 4) 8).length = 8 := sub_len (by omega)
  rw [hp]
  have C := Lib.hid (RetW.still (snum_any (w := w0.drew) (g := g) p 4 h1 hs (by omega) (by omega) (by omega)))
  have L := Lib.hid (load_eight (w := w0.drew) (p := p + 4) h1 (by omega))
  obtain ⟨x, hx'⟩ : ∃ x, num (sub s p 4) = x := ⟨_, rfl⟩
  obtain ⟨y, hy'⟩ : ∃ y, sub s (p + 4) 8 = y := ⟨_, rfl⟩
  rw [hx'] at C hx ⊢
  rw [hy'] at L hl8 ⊢
  have HX := Lib.hid hx
  have HL := Lib.hid hl8
  have H2 := Lib.hid h2
  have B0 := Lib.hid hb
  have W0 := Lib.hid hw0
  have HP := Lib.hid hp1
  have hp3 : ((p : Int) + 4) ≤ 512 := by omega
  have hp4 : ¬ (512 = p + 4) := by omega
  have hp6 : IntKind.i64.wrap ((p : Int) + 4) = (p : Int) + 4 := by rw [IntKind.wrap_i64]; omega
  have hp7 : ((p : Int) + 4).toNat = p + 4 := by omega
  have hp8 : (0 : Int) ≤ (p : Int) + 4 := by omega
  have hp5 : (8 : Int) ≤ 512 - ((p : Int) + 4) := by omega
  have hAr : ∀ W, (Instr.arrayAt 126 (.slice (some ⟨g, p + 4, none⟩) (508 - p) (508 - p))).run Try.prog W = .ok (.pointer (some ⟨g, p + 4, none⟩)) W := by
    intro W
    unfold Instr.arrayAt
    simp [run_underlying Try.underlying126]
    omega
  have AR := Lib.hid hAr
  clear hAr
  have hxi : IntKind.i64.wrap (x : Int) = (x : Int) := by rw [IntKind.wrap_i64]; omega
  clear h h1 h2 hb hw0 hx' hy' hx hl8 hp hp1
  go_enter Try.func79, Try.ntmps79
  go_upto_region 1 with fail
  rw [W0.out]
  go_wp2_with fail
  go_still_tail 12, (by kernel_rfl)
  still_call C.out
  repeat still_step
  refine wpStill_step (fun K hK => ?_)
  refine stillA rfl (AR.out _) ?_
  refine hK _ ?_
  clear hK K
  refine wpStill_step (fun K hK => ?_)
  refine stillLd rfl rfl L.out ?_
  refine hK _ ?_
  clear hK K
  repeat still_step
  refine wpStill_nil ?_
  change wpList _ _ _ _ _ w0.drew
  try simp only [Act.put, List.setIfInBounds_toArray, List.set_cons_zero, List.set_cons_succ]
  have H2d : Hid (Bw w0.drew w.heap.size 126 (zer 8)) := Lib.hid H2.out
  go_wp2_with (refine wpList_store_row rfl 126 (.tmp 5) (.tmp 20) rfl w.heap.size (cellsB y).toArray rfl rfl _ _ H2d.out (by rw [cellsB_size, HL.out]; kernel_rfl) (by rw [cellsB_size, cellsB_size, HL.out]; rfl) (cellsB_ones y) ?_)
  have H3 : Bw (w0.drew.setRow w.heap.size (cellsB y).toArray) w.heap.size 126 y := H2d.out.row
  refine bodyPost_ret (v := .tuple #[.int .i64 (x : Int), .agg (cellsB y).toArray]) (res_tc (p := 4) (q := 5) (ty := 126) rfl _ _ w.heap.size _ _ rfl rfl (run_loadVar_row _ _ _ _ _ (0, 0) _ H3 Try.underlying126 rfl (by rw [cellsB_size, HL.out]; kernel_rfl))) (by rfl) ?_
  exact ⟨rfl, below_setRow B0.out.drew (Nat.le_refl _) _⟩
set_option maxRecDepth 100000 in
theorem anchor_any (k : Mk) (w : World) (h : k.Fit) : Calls Try.prog 73 #[.agg (mkC k)] w (RetSec w k.anc) := by
  obtain ⟨w0, hw0⟩ : ∃ w0, ((w.alloc (.cells (mkC k) 62)).alloc (.cells (cellsB zsec).toArray 97)).alloc (.cells (cellsB zsec).toArray 97) = w0 := ⟨_, rfl⟩
  have hb : Below w.heap.size w w0 := by rw [← hw0]; exact (((Below.refl _ _).alloc (Nat.le_refl _) _).alloc (by simp) _).alloc (by simp; omega) _
  have hm : w0.heap[w.heap.size]? = some (.cells (mkC k) 62 (0, 0)) := by
    rw [← hw0]
    exact (Below.heap_alloc _ _ _ (by simp; omega)).trans ((Below.heap_alloc _ _ _ (by simp)).trans (heap_alloc_new w _))
  have h1 : Bw w0 (w.heap.size + 1) 97 zsec := by rw [← hw0]; have := (Bw.new (w.alloc (.cells (mkC k) 62)) zsec 97).alloc (.cells (cellsB zsec).toArray 97); simpa using this
  have h2 : Bw w0 (w.heap.size + 1 + 1) 97 zsec := by rw [← hw0]; have := bw_second (w.alloc (.cells (mkC k) 62)) zsec zsec 97 97; simpa using this
  obtain ⟨s, t, p, r⟩ := k
  have hs : s < 18446744073709551616 := h.n
  have ht : t < 18446744073709551616 := h.t
  have hp : p < 4294967296 := h.p
  have hr : r < 4294967296 := h.r
  obtain ⟨S1, hS1⟩ : ∃ S1, setTag zsec s = S1 := ⟨_, rfl⟩
  obtain ⟨S2, hS2⟩ : ∃ S2, over S1 8 (be 8 t) = S2 := ⟨_, rfl⟩
  obtain ⟨S3, hS3⟩ : ∃ S3, over S2 16 (be 4 p) = S3 := ⟨_, rfl⟩
  obtain ⟨S4, hS4⟩ : ∃ S4, over S3 20 (be 4 r) = S4 := ⟨_, rfl⟩
  have l1 : S1.length = 512 := by rw [← hS1]; exact setTag_len zsec_len
  have l2 : S2.length = 512 := by rw [← hS2]; exact over_be l1 (by omega)
  have l3 : S3.length = 512 := by rw [← hS3]; exact over_be l2 (by omega)
  have l4 : S4.length = 512 := by rw [← hS4]; exact over_be l3 (by omega)
  have e0 : (Mk.mk s t p r).anc = S4 := by
    show over (over (over (setTag zsec s) 8 (be 8 t)) 16 (be 4 p)) 20 (be 4 r) = S4
    rw [hS1, hS2, hS3, hS4]
  rw [e0]
  have C1 : Hid (∀ W, Bw W (w.heap.size + 1 + 1) 97 zsec → Calls Try.prog 95 #[.pointer (some ⟨w.heap.size + 1 + 1, 0, none⟩), .int .u64 (s : Int)] W (RetS W (w.heap.size + 1 + 1) S1)) := Lib.hid (fun W hW => by have := sset_any s hW zsec_len hs; rwa [hS1] at this)
  have C2 : Hid (∀ W, Bw W (w.heap.size + 1 + 1) 97 S1 → Calls Try.prog 96 #[.pointer (some ⟨w.heap.size + 1 + 1, 0, none⟩), .int .i64 8, .int .u64 (t : Int), .int .i64 8] W (RetS W (w.heap.size + 1 + 1) S2)) := Lib.hid (fun W hW => by have := sput_any 8 t 8 hW l1 ht (by omega) (by omega) (by omega) (by omega); rwa [hS2] at this)
  have C3 : Hid (∀ W, Bw W (w.heap.size + 1 + 1) 97 S2 → Calls Try.prog 96 #[.pointer (some ⟨w.heap.size + 1 + 1, 0, none⟩), .int .i64 16, .int .u64 (p : Int), .int .i64 4] W (RetS W (w.heap.size + 1 + 1) S3)) := Lib.hid (fun W hW => by have := sput_any 16 p 4 hW l2 (by omega) (by omega) (by omega) (by omega) (by omega); rwa [hS3] at this)
  have C4 : Hid (∀ W, Bw W (w.heap.size + 1 + 1) 97 S3 → Calls Try.prog 96 #[.pointer (some ⟨w.heap.size + 1 + 1, 0, none⟩), .int .i64 20, .int .u64 (r : Int), .int .i64 4] W (RetS W (w.heap.size + 1 + 1) S4)) := Lib.hid (fun W hW => by have := sput_any 20 r 4 hW l3 (by omega) (by omega) (by omega) (by omega) (by omega); rwa [hS4] at this)
  have L4 := Lib.hid l4
  have HM := Lib.hid hm
  have H1 := Lib.hid h1
  have H2 := Lib.hid h2
  have B0 := Lib.hid hb
  have W0 := Lib.hid hw0
  have mc : ∀ W : World, W.heap[w.heap.size]? = some (.cells (mkC ⟨s, t, p, r⟩) 62 (0, 0)) → W.cell? ⟨w.heap.size, 0, none⟩ = some (.int .u64 (s : Int)) ∧ W.cell? ⟨w.heap.size, 1, none⟩ = some (.int .u64 (t : Int)) ∧ W.cell? ⟨w.heap.size, 2, none⟩ = some (.int .u32 (p : Int)) ∧ W.cell? ⟨w.heap.size, 3, none⟩ = some (.int .u32 (r : Int)) := fun W hW =>
    ⟨cell_of_row W _ 0 _ _ (0, 0) hW, cell_of_row W _ 1 _ _ (0, 0) hW, cell_of_row W _ 2 _ _ (0, 0) hW, cell_of_row W _ 3 _ _ (0, 0) hW⟩
  obtain ⟨m0, _, _, _⟩ := mc w0 hm
  have MC := Lib.hid mc
  clear h hm h1 h2 hb hw0 hS1 hS2 hS3 hS4 l1 l2 l3 l4 e0 mc
  go_enter Try.func73, Try.ntmps73
  go_upto_region 2 with fail
  rw [zc97]
  unfold mkC at W0 ⊢
  rw [W0.out]
  go_wp2_with (first
    | (go_at_call 95; refine (C1.out _ H2.out).mono ?_; rintro e w1 ⟨rfl, q1, o1⟩
       have Q1 := Lib.hid q1
       have HM1 := Lib.hid ((o1.block _ (Array.getElem?_eq_some_iff.1 HM.out).1 (by omega)).trans HM.out)
       obtain ⟨_, m1, _, _⟩ := MC.out w1 HM1.out
       have O1 := Lib.hid o1
       clear q1 o1)
    | (go_at_call_of 96 (Value.int .i64 20); refine (C4.out _ Q3.out).mono ?_; rintro e w4 ⟨rfl, q4, o4⟩
       have Q4 := Lib.hid q4
       have O4 := Lib.hid o4
       have OO := Lib.hid (((O1.out.trans O2.out).trans O3.out).trans O4.out)
       have H14 := Lib.hid (H1.out.keepO OO.out (by omega))
       clear q4 o4)
    | (go_at_call_of 96 (Value.int .i64 16); refine (C3.out _ Q2.out).mono ?_; rintro e w3 ⟨rfl, q3, o3⟩
       have Q3 := Lib.hid q3
       have HM3 := Lib.hid ((o3.block _ (Array.getElem?_eq_some_iff.1 HM2.out).1 (by omega)).trans HM2.out)
       obtain ⟨_, _, _, m3⟩ := MC.out w3 HM3.out
       have O3 := Lib.hid o3
       clear q3 o3)
    | (go_at_call 96; refine (C2.out _ Q1.out).mono ?_; rintro e w2 ⟨rfl, q2, o2⟩
       have Q2 := Lib.hid q2
       have HM2 := Lib.hid ((o2.block _ (Array.getElem?_eq_some_iff.1 HM1.out).1 (by omega)).trans HM1.out)
       obtain ⟨_, _, m2, _⟩ := MC.out w2 HM2.out
       have O2 := Lib.hid o2
       clear q2 o2)
    | (refine wp_load_sec rfl (.tmp 3) rfl (w.heap.size + 1 + 1) rfl _ S4 Q4.out L4.out ?_)
    | (refine wp_store_sec rfl (.tmp 2) (.tmp 18) rfl (w.heap.size + 1) S4 rfl rfl _ zsec H14.out zsec_len L4.out ?_; intro w5 h5 o5))
  refine bodyPost_ret (v := .agg (cellsB S4).toArray) (res_sec (p := 2) rfl _ rfl h5 L4.out) (by rfl) ?_
  have b4 := B0.out.trans (OO.out.to_below (B := w.heap.size) (fun k hk => by omega) B0.out.size)
  exact ⟨rfl, b4.trans (o5.to_below (fun k hk => by omega) b4.size)⟩
end
end Go.Proofs.Ytkbbpkbchniddaa
