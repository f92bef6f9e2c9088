/-
  Own work. What every statement of sha asks first: does sha do anything yet?
-/
import Derived.Test.YtlgjoeabogbknaaOf
import Derived.Test.YtlgjoeabogbknaaKat
import Derived.Deep.DeepCutAuto
import Derived.Lib.SmallJoins
namespace Go.Proofs.Ytlgjoeabogbknaa
open Go.RowKit
set_option linter.unusedVariables false
set_option linter.unusedSimpArgs false

theorem bytes_inj : ∀ {l m : List UInt8}, l.map (fun x => (x.toNat : Int)) = m.map (fun x => (x.toNat : Int)) → l = m
  | [], [], _ => rfl
  | [], _ :: _, h => by simp at h
  | _ :: _, [], h => by simp at h
  | a :: l, b :: m, h => by
    simp only [List.map_cons, List.cons.injEq] at h
    have h1 : a.toNat = b.toNat := by omega
    rw [bytes_inj h.2, UInt8.toNat_inj.1 h1]
/-- What '==' says of two answers. -/
theorem eql_id (l m : List UInt8) (hl : l.length = 32) (hm : m.length = 32) (w : World) :
    (binOp .eql 31 (.agg (cellsB l).toArray) (.agg (cellsB m).toArray)).run Try.prog w = .ok (.bool (decide (l = m))) w := by
  have c : Try.prog.cellsOf 31 = 32 := by kernel_rfl
  have := eql_ints (P := Try.prog) Try.underlying31 Try.underlying5 c (by kernel_rfl) (by kernel_rfl) (fun cs hcs => by
    unfold Value.formed
    simp only [Try.underlying31, hcs, c]
    rfl) (l.map fun x => (x.toNat : Int)) (m.map fun x => (x.toNat : Int)) (by simp [hl]) (by simp [hm]) (wf_u8 l) (wf_u8 m) w
  rw [← bytes_ints, ← bytes_ints] at this
  rw [this]
  congr 2
  rw [decide_eq_decide]
  exact ⟨bytes_inj, fun h => by rw [h]⟩
theorem eql_id_same (l : List UInt8) (hl : l.length = 32) (w : World) :
    (binOp .eql 31 (.agg (cellsB l).toArray) (.agg (cellsB l).toArray)).run Try.prog w = .ok (.bool true) w := by
  rw [eql_id l l hl hl w, decide_eq_true rfl]
theorem guard_id (xs ys : Array Value) (x y : Operand) (w : World) : (eqGuard .eql 31 x y (.agg xs) (.agg ys)).run Try.prog w = .ok () w := by
  unfold eqGuard
  simp

section
variable {P : Program} {ops : Array Oper} {o : Oper} {a : Act} {S : World → Prop}
theorem yieldsIf_loadG (hw : Region.wanted o (yielded ops a.tmps) = true) (ty : TypeId) (x : Operand) (ho : o.op = .load ty x) (ad : Addr) (hx : a.eval x = .pointer (some ad)) (v : Value)
    (hl : ∀ w, S w → (loadVar ty ad).run P w = .ok v w) : YieldsIf P ops S o v a := by
  refine Or.inl ⟨hw, fun w hS => ?_⟩
  unfold execOp
  simp only [ho, hx, Instr.loadAt, Instr.sureAddr, Sem.run_bind, Sem.run_pure, Result.andThen_ok, hl w hS]
theorem yieldsIf_eql (hw : Region.wanted o (yielded ops a.tmps) = true) (t u : TypeId) (x y : Operand) (ho : o.op = .binOp .eql t x y u) (X Y : Value) (r : Bool) (hx : a.eval x = X) (hy : a.eval y = Y)
    (hg : ∀ w, (eqGuard .eql t x y X Y).run P w = .ok () w) (hb : ∀ w, (binOp .eql t X Y).run P w = .ok (.bool r) w) : YieldsIf P ops S o (.bool r) a := by
  refine Or.inl ⟨hw, fun w hS => ?_⟩
  unfold execOp
  simp only [ho, hx, hy, Sem.run_bind, Sem.run_pure, Result.andThen_ok, hg, hb]
end
theorem Bw.load {w : World} {g : Nat} {l : List UInt8} (h : Bw w g 31 l) (hl : l.length = 32) : (loadVar 31 ⟨g, 0, none⟩).run Try.prog w = .ok (.agg (cellsB l).toArray) w :=
  run_loadVar_row w g _ 31 _ (0, 0) _ h Try.underlying31 rfl (by rw [cellsB_size, hl]; exact infoID)
theorem Bw.load1 {w : World} {g i : Nat} {x : UInt8} {l : List UInt8} {t : TypeId} (h : Bw w g t l) (hx : l[i]? = some x) : (loadVar 5 ⟨g, i, none⟩).run Try.prog w = .ok (.int .u8 (x.toNat : Int)) w := by
  have := h.cell hx
  simp [loadVar, isAgg, run_underlying Try.underlying5, go_sem, this]
/-- Bytes of a literal, behind its mark. -/
theorem HasB.lit (w : World) (l : List UInt8) (t : TypeId) (fr : Nat × Nat) : HasB (w.alloc (.cells (cellsB l).toArray t fr)) (w.heap.size + 1) (some ⟨w.heap.size, 0, none⟩) l.length l :=
  ⟨rfl, fun _ => ⟨w.heap.size, 0, rfl, by omega, fun i b hb => by
    rw [cell_of_row _ _ _ _ t fr (heap_alloc_new w _)]
    simp [cellsB, hb]⟩⟩
theorem Src.of_has {w : World} {g B n : Nat} {A : Option Addr} {l : List UInt8} (h : HasB w B A n l) (hB : B ≤ w.heap.size) (hne : ∀ k o, A = some ⟨k, o, none⟩ → k ≠ g) : Src w g A n l :=
  ⟨h.1, fun hn => by
    obtain ⟨k, o, e, hk, hc⟩ := h.2 hn
    exact ⟨k, o, e, hne k o e, by omega, hc⟩⟩

def abc : List UInt8 := [97, 98, 99]
def beg1 (w : World) : World := w.alloc (.cells (cellsB [97]).toArray 5 (1, 2))
def beg2 (w : World) : World := (beg1 w).alloc (.cells (cellsB [98, 99]).toArray 5 (2, 3))
def beg3 (w : World) : World := (beg2 w).alloc (.cells #[.slice (some ⟨w.heap.size, 0, none⟩) 1 1, .slice (some ⟨w.heap.size + 1, 0, none⟩) 2 2] 29)
theorem beg1_size (w : World) : (beg1 w).heap.size = w.heap.size + 1 := by simp [beg1]
theorem beg2_size (w : World) : (beg2 w).heap.size = w.heap.size + 1 + 1 := by simp [beg2, beg1]
theorem beg3_size (w : World) : (beg3 w).heap.size = w.heap.size + 1 + 1 + 1 := by simp [beg3, beg2, beg1]
theorem beg3_has (w : World) : HasBB (beg3 w) (beg3 w).heap.size (some ⟨w.heap.size + 1 + 1, 0, none⟩) 2 [[97], [98, 99]] := by
  refine ⟨rfl, fun _ => ⟨w.heap.size + 1 + 1, 0, rfl, by rw [beg3_size]; omega, fun i l hi => ?_⟩⟩
  have hrow : (beg3 w).heap[w.heap.size + 1 + 1]? = some (.cells #[.slice (some ⟨w.heap.size, 0, none⟩) 1 1, .slice (some ⟨w.heap.size + 1, 0, none⟩) 2 2] 29 (0, 0)) := by
    have := heap_alloc_new (beg2 w) (.cells #[.slice (some ⟨w.heap.size, 0, none⟩) 1 1, .slice (some ⟨w.heap.size + 1, 0, none⟩) 2 2] 29)
    rw [beg2_size] at this
    exact this
  have h1 : HasB (beg3 w) (beg3 w).heap.size (some ⟨w.heap.size, 0, none⟩) 1 [97] :=
    (((HasB.lit w [97] 5 (1, 2)).alloc (by have := beg1_size w; unfold beg1 at this; omega) _).alloc (by have := beg2_size w; unfold beg2 beg1 at this; omega) _).more (by rw [beg3_size]; omega)
  have h2 : HasB (beg3 w) (beg3 w).heap.size (some ⟨w.heap.size + 1, 0, none⟩) 2 [98, 99] := by
    have := HasB.lit (beg1 w) [98, 99] 5 (2, 3)
    rw [beg1_size] at this
    exact (HasB.alloc (w := beg2 w) this (by rw [beg2_size]; omega) _).more (by rw [beg3_size]; omega)
  rcases i with _ | _ | i
  · simp only [List.getElem?_cons_zero, Option.some.injEq] at hi
    subst hi
    exact ⟨_, _, _, by rw [cell_of_row _ _ _ _ _ _ hrow]; rfl, Nat.le_refl _, h1⟩
  · simp only [List.getElem?_cons_succ, List.getElem?_cons_zero, Option.some.injEq] at hi
    subst hi
    exact ⟨_, _, _, by rw [cell_of_row _ _ _ _ _ _ hrow]; rfl, Nat.le_refl _, h2⟩
  · simp at hi
theorem beg3_below (w : World) : Below w.heap.size w (beg3 w) := (((Below.refl _ _).alloc (Nat.le_refl _) _).alloc (by simp) _).alloc (by simp; omega) _

set_option maxRecDepth 100000 in
set_option maxHeartbeats 400000 in
theorem begun_any (w : World) : Calls Try.prog 9 #[] w fun e w' => e = .returned (.bool true) ∧ Below w.heap.size w w' := by
  obtain ⟨I, hI⟩ : ∃ I, sumS abc = I := ⟨_, rfl⟩
  have IL : I.length = 32 := by rw [← hI]; exact sum_len _
  have I2 : I.take 2 = [0xba, 0x78] := by rw [← hI]; exact abc_sum
  have I0 : I[0]? = some (186 : UInt8) := by
    have := congrArg (·[0]?) I2
    simpa using this
  have I1 : I[1]? = some (120 : UInt8) := by
    have := congrArg (·[1]?) I2
    simpa using this
  have CO : Calls Try.prog 15 #[.slice (some ⟨w.heap.size + 1 + 1, 0, none⟩) 2 2] (((w.alloc (.cells #[.int .u8 97] 5 (1, 2))).alloc (.cells #[.int .u8 98, .int .u8 99] 5 (2, 3))).alloc (.cells #[.slice (some ⟨w.heap.size, 0, none⟩) 1 1, .slice (some ⟨w.heap.size + 1, 0, none⟩) 2 2] 29)) (RetID (beg3 w) I) := by
    rw [← hI]
    exact of_any _ 2 2 [[97], [98, 99]] (beg3 w) (beg3_has w) (by omega) (by decide)
  have CS : ∀ g W, HashD W g abc → Calls Try.prog 16 #[.pointer (some ⟨g, 0, none⟩)] W (RetID W I) := by
    intro g W h
    rw [← hI]
    exact sum_any g abc W h (by decide)
  clear hI I2
  have kc := fun (w : World) (C : Array Value) (n c : Nat) => Lib.run_convert_bytes_const (P := Try.prog) w 29 5 C n c Try.underlying29 Try.underlying5
  have kc2 : (convert 29 29 (.slice (some ⟨w.heap.size + 1, 0, none⟩) 2 2)).run Try.prog ((w.alloc (.cells #[.int .u8 97] 5 (1, 2))).alloc (.cells #[.int .u8 98, .int .u8 99] 5)) = .ok (.slice (some ⟨w.heap.size + 1, 0, none⟩) 2 2) ((w.alloc (.cells #[.int .u8 97] 5 (1, 2))).alloc (.cells #[.int .u8 98, .int .u8 99] 5 (2, 3))) := Joins.run_convert_bytes_const_at (P := Try.prog) (beg1 w) 29 5 (cellsB [98, 99]).toArray 2 2 (w.heap.size + 1) (beg1_size w).symm Try.underlying29 Try.underlying5
  have HIL := Lib.hid IL
  have hiv : (Try.prog.info? 31).map (·.size) = some (cellsB I).toArray.size := by rw [cellsB_size, IL]; exact infoID
  have hz3 : (cellsB (zer 32)).toArray.size = (cellsB I).toArray.size := by rw [cellsB_size, cellsB_size, IL, zer_len]
  have HIV := Lib.hid hiv
  have HZ3 := Lib.hid hz3
  clear hiv hz3
  have HI0 := Lib.hid I0
  have HI1 := Lib.hid I1
  clear I0 I1 IL
  go_enter Try.func9, Try.ntmps9
  go_upto_region 2 with (first
    | (go_at_call 15; refine CO.mono ?_; rintro e w1 ⟨rfl, hb1⟩
       have HB1 := Lib.hid hb1
       clear hb1)
    | (refine wpList_store_row rfl 31 (.tmp 1) (.tmp 8) rfl w1.heap.size (cellsB I).toArray rfl rfl 31 _ (heap_alloc_new w1 _) HIV.out HZ3.out (cellsB_ones _) ?_))
  generalize hw2 : World.setRow _ _ _ = w2
  have hx0 : w.heap.size ≤ w1.heap.size := Nat.le_trans (beg3_below w).size HB1.out.size
  have R2 : Bw w2 w1.heap.size 31 I := by rw [← hw2]; exact setRow_heap _ _ _ _ 31 _ (heap_alloc_new w1 _)
  have B2 : Below w.heap.size w w2 := by
    rw [← hw2]
    exact below_setRow (((beg3_below w).trans (HB1.out.mono (beg3_below w).size)).alloc hx0 _) hx0 _
  obtain ⟨x0, hx⟩ : ∃ x0, w1.heap.size = x0 := ⟨_, rfl⟩
  rw [hx] at R2 ⊢
  have RR2 := Lib.hid R2
  have BB2 := Lib.hid B2
  clear hw2 hx R2 B2 kc2 hx0
  go_upto_region 4 with (first
    | (go_at_call 12; refine (new_any _).mono ?_; rintro e w3 ⟨g, rfl, hg, hd, hb3⟩
       have hgw : w.heap.size ≤ g := Nat.le_trans BB2.out.size hg
       have HGW := Lib.hid hgw
       have h3 : Below w.heap.size w w3 := BB2.out.trans (hb3.mono BB2.out.size)
       have h3b : Bw w3 x0 31 I := RR2.out.below hb3 RR2.out.lt
       have hgx : g ≠ x0 := by have := RR2.out.lt; omega
       have CW := write_any g 3 3 [] abc (some ⟨w3.heap.size, 0, none⟩) (w3.alloc (.cells (cellsB abc).toArray 5 (3, 4))) (hd.kept (Below.heap_alloc _ _ _ hd.lt))
         (Src.of_has (HasB.lit w3 abc 5 (3, 4)) (by simp) (by intro k o e; injection e with e; injection e with e1 e2; have := hd.lt; omega)) (by omega) (by decide)
       have BB3 := Lib.hid h3
       have RR3 := Lib.hid h3b
       have HGX := Lib.hid hgx
       have HCW := Lib.hid CW
       clear hg hd hb3 h3 h3b hgx CW hgw)
    | (go_at_call 13; refine HCW.out.mono ?_; rintro e w4 ⟨rfl, hd4, hg4⟩
       have h4 : Below w.heap.size w w4 := below_row (BB3.out.alloc BB3.out.size _) hg4 HGW.out (by have := BB3.out.size; simp; omega)
       have h4b : Bw w4 x0 31 I := (hg4.block _ (by have := RR3.out.lt; simp; omega) (by intro e; injection e with e; exact HGX.out e.symm)).trans (RR3.out.alloc _)
       have SD : Hid (HashD w4.drew g abc) := Lib.hid hd4
       have SB : Hid (Bw w4.drew x0 31 I) := Lib.hid h4b
       have SBB := Lib.hid h4
       clear hd4 hg4 h4 h4b))
  have I0 := HI0.out
  have I1 := HI1.out
  have IL := HIL.out
  refine wp_region_held_drew (S := fun W => Bw W x0 31 I ∧ HashD W g abc ∧ Below w.heap.size w W) (by kernel_rfl) ⟨SB.out, SD.out, SBB.out.drew⟩ (fun hHeld => ?_)
  refine wpAnyH_take (i := 0) (v := ?v0) (by simp only [List.getElem?_toArray, List.getElem?_cons_succ, List.getElem?_cons_zero]; rfl) (by kernel_rfl) (by kernel_rfl) (by kernel_rfl) (by exact fun _ _ _ h => h) (Or.inl ⟨by rfl, ?h0⟩) (by assumption) ?_
  case h0 => (intro W hSw; (try dsimp only at hSw); go_simp; try with_reducible rfl)
  try simp only [Act.put, List.setIfInBounds_toArray, List.set_cons_zero, List.set_cons_succ]
  refine wpAnyH_take (i := 1) (by simp only [List.getElem?_toArray, List.getElem?_cons_succ, List.getElem?_cons_zero]; rfl) (by kernel_rfl) (by kernel_rfl) (by kernel_rfl) (by exact fun _ _ _ h => h) (yieldsIf_loadG (by rfl) 5 (.tmp 14) rfl ⟨x0, 0, none⟩ rfl (.int .u8 186) (fun W hW => hW.1.load1 I0)) (by assumption) ?_
  try simp only [Act.put, List.setIfInBounds_toArray, List.set_cons_zero, List.set_cons_succ]
  refine wpAnyH_take (i := 2) (v := ?v2) (by simp only [List.getElem?_toArray, List.getElem?_cons_succ, List.getElem?_cons_zero]; rfl) (by kernel_rfl) (by kernel_rfl) (by kernel_rfl) (by exact fun _ _ _ h => h) (Or.inl ⟨by rfl, ?h2⟩) (by assumption) ?_
  case h2 => (intro W hSw; (try dsimp only at hSw); go_simp; try with_reducible rfl)
  try simp only [Act.put, List.setIfInBounds_toArray, List.set_cons_zero, List.set_cons_succ]
  refine wpAnyH_take (i := 3) (v := ?v3) (by simp only [List.getElem?_toArray, List.getElem?_cons_succ, List.getElem?_cons_zero]; rfl) (by kernel_rfl) (by kernel_rfl) (by kernel_rfl) (by exact fun _ _ _ h => h) (Or.inl ⟨by rfl, ?h3⟩) (by assumption) ?_
  case h3 => (intro W hSw; (try dsimp only at hSw); go_simp; try with_reducible rfl)
  try simp only [Act.put, List.setIfInBounds_toArray, List.set_cons_zero, List.set_cons_succ]
  refine wpAnyH_take (i := 4) (v := ?v4) (by simp only [List.getElem?_toArray, List.getElem?_cons_succ, List.getElem?_cons_zero]; rfl) (by kernel_rfl) (by kernel_rfl) (by kernel_rfl) (by exact fun _ _ _ h => h) (Or.inl ⟨by rfl, ?h4⟩) (by assumption) ?_
  case h4 => (intro W hSw; (try dsimp only at hSw); go_simp; try with_reducible rfl)
  try simp only [Act.put, List.setIfInBounds_toArray, List.set_cons_zero, List.set_cons_succ]
  refine wpAnyH_take (i := 5) (by simp only [List.getElem?_toArray, List.getElem?_cons_succ, List.getElem?_cons_zero]; rfl) (by kernel_rfl) (by kernel_rfl) (by kernel_rfl) (by exact fun _ _ _ h => h) (yieldsIf_loadG (by rfl) 5 (.tmp 18) rfl ⟨x0, 1, none⟩ rfl (.int .u8 120) (fun W hW => hW.1.load1 I1)) (by assumption) ?_
  try simp only [Act.put, List.setIfInBounds_toArray, List.set_cons_zero, List.set_cons_succ]
  refine wpAnyH_take (i := 6) (v := ?v6) (by simp only [List.getElem?_toArray, List.getElem?_cons_succ, List.getElem?_cons_zero]; rfl) (by kernel_rfl) (by kernel_rfl) (by kernel_rfl) (by exact fun _ _ _ h => h) (Or.inl ⟨by rfl, ?h6⟩) (by assumption) ?_
  case h6 => (intro W hSw; (try dsimp only at hSw); go_simp; try with_reducible rfl)
  try simp only [Act.put, List.setIfInBounds_toArray, List.set_cons_zero, List.set_cons_succ]
  refine wpAnyH_take (i := 7) (v := ?v7) (by simp only [List.getElem?_toArray, List.getElem?_cons_succ, List.getElem?_cons_zero]; rfl) (by kernel_rfl) (by kernel_rfl) (by kernel_rfl) (by exact fun _ _ _ h => h) (Or.inl ⟨by rfl, ?h7⟩) (by assumption) ?_
  case h7 => (intro W hSw; (try dsimp only at hSw); go_simp; try with_reducible rfl)
  try simp only [Act.put, List.setIfInBounds_toArray, List.set_cons_zero, List.set_cons_succ]
  refine wpAnyH_take (i := 8) (v := ?v8) (by simp only [List.getElem?_toArray, List.getElem?_cons_succ, List.getElem?_cons_zero]; rfl) (by kernel_rfl) (by kernel_rfl) (by kernel_rfl) (by exact fun _ _ _ h => h) (Or.inl ⟨by rfl, ?h8⟩) (by assumption) ?_
  case h8 => (intro W hSw; (try dsimp only at hSw); go_simp; try with_reducible rfl)
  try simp only [Act.put, List.setIfInBounds_toArray, List.set_cons_zero, List.set_cons_succ]
  refine wpAnyH_take (i := 9) (v := ?v9) (by simp only [List.getElem?_toArray, List.getElem?_cons_succ, List.getElem?_cons_zero]; rfl) (by kernel_rfl) (by kernel_rfl) (by kernel_rfl) (by exact fun _ _ _ h => h) (Or.inl ⟨by rfl, ?h9⟩) (by assumption) ?_
  case h9 => (intro W hSw; (try dsimp only at hSw); go_simp; try with_reducible rfl)
  try simp only [Act.put, List.setIfInBounds_toArray, List.set_cons_zero, List.set_cons_succ]
  refine wpAnyH_take (i := 11) (by simp only [List.getElem?_toArray, List.getElem?_cons_succ, List.getElem?_cons_zero]; rfl) (by kernel_rfl) (by kernel_rfl) (by kernel_rfl) (by exact fun _ _ _ h => h) (yieldsIf_loadG (by rfl) 31 (.tmp 1) rfl ⟨x0, 0, none⟩ rfl (.agg (cellsB I).toArray) (fun W hW => hW.1.load IL)) (by assumption) ?_
  try simp only [Act.put, List.setIfInBounds_toArray, List.set_cons_zero, List.set_cons_succ]
  refine wpAnyH_ready (rs := [10]) (by kernel_rfl) (by simp) ?_
  refine AllReadyH.cons (by simp only [List.getElem?_toArray, List.getElem?_cons_succ, List.getElem?_cons_zero]; rfl) (fun K hK => ?_) AllReadyH.nil
  go_simp
  refine (CS g _ hHeld.2.1).mono ?_
  rintro e w5 ⟨rfl, hb5⟩
  have hS10 : Bw w5 x0 31 I ∧ HashD w5 g abc ∧ Below w.heap.size w w5 := ⟨hHeld.1.below hb5 hHeld.1.lt, hHeld.2.1.below hb5 hHeld.2.1.lt, hHeld.2.2.trans (hb5.mono hHeld.2.2.size)⟩
  refine hK _ _ hS10 (fun hH10 => ?_)
  clear hK K
  try simp only [Act.put, List.setIfInBounds_toArray, List.set_cons_zero, List.set_cons_succ]
  refine wpAnyH_take (i := 12) (by simp only [List.getElem?_toArray, List.getElem?_cons_succ, List.getElem?_cons_zero]; rfl) (by kernel_rfl) (by kernel_rfl) (by kernel_rfl) (by exact fun _ _ _ h => h) (yieldsIf_eql (by rfl) 31 31 (.tmp 24) (.tmp 25) rfl _ _ true rfl rfl (fun W => guard_id _ _ _ _ W) (fun W => eql_id_same I IL W)) (by assumption) ?_
  try simp only [Act.put, List.setIfInBounds_toArray, List.set_cons_zero, List.set_cons_succ]
  refine wpAnyH_take (i := 13) (v := ?v13) (by simp only [List.getElem?_toArray, List.getElem?_cons_succ, List.getElem?_cons_zero]; rfl) (by kernel_rfl) (by kernel_rfl) (by kernel_rfl) (by exact fun _ _ _ h => h) (Or.inl ⟨by rfl, ?h13⟩) (by assumption) ?_
  case h13 => (intro W hSw; (try dsimp only at hSw); go_simp; try with_reducible rfl)
  try simp only [Act.put, List.setIfInBounds_toArray, List.set_cons_zero, List.set_cons_succ]
  refine wpAnyH_take (i := 14) (v := ?v14) (by simp only [List.getElem?_toArray, List.getElem?_cons_succ, List.getElem?_cons_zero]; rfl) (by kernel_rfl) (by kernel_rfl) (by kernel_rfl) (by exact fun _ _ _ h => h) (Or.inl ⟨by rfl, ?h14⟩) (by assumption) ?_
  case h14 => (intro W hSw; (try dsimp only at hSw); go_simp; try with_reducible rfl)
  try simp only [Act.put, List.setIfInBounds_toArray, List.set_cons_zero, List.set_cons_succ]
  refine wpAnyH_take (i := 15) (v := ?v15) (by simp only [List.getElem?_toArray, List.getElem?_cons_succ, List.getElem?_cons_zero]; rfl) (by kernel_rfl) (by kernel_rfl) (by kernel_rfl) (by exact fun _ _ _ h => h) (Or.inl ⟨by rfl, ?h15⟩) (by assumption) ?_
  case h15 => (intro W hSw; (try dsimp only at hSw); go_simp; try with_reducible rfl)
  try simp only [Act.put, List.setIfInBounds_toArray, List.set_cons_zero, List.set_cons_succ]
  refine wpAnyH_ready (rs := [16]) (by kernel_rfl) (by simp) ?_
  refine AllReadyH.cons (by simp only [List.getElem?_toArray, List.getElem?_cons_succ, List.getElem?_cons_zero]; rfl) (fun K hK => ?_) AllReadyH.nil
  go_simp
  refine (len_any g abc _ hS10.2.1 (by decide)).mono ?_
  rintro e w6 ⟨rfl, rfl⟩
  have hS16 := hS10
  refine hK _ _ hS16 (fun hH16 => ?_)
  clear hK K
  try simp only [Act.put, List.setIfInBounds_toArray, List.set_cons_zero, List.set_cons_succ]
  refine wpAnyH_take (i := 17) (v := ?v17) (by simp only [List.getElem?_toArray, List.getElem?_cons_succ, List.getElem?_cons_zero]; rfl) (by kernel_rfl) (by kernel_rfl) (by kernel_rfl) (by exact fun _ _ _ h => h) (Or.inl ⟨by rfl, ?h17⟩) (by assumption) ?_
  case h17 => (intro W hSw; (try dsimp only at hSw); go_simp; try with_reducible rfl)
  try simp only [Act.put, List.setIfInBounds_toArray, List.set_cons_zero, List.set_cons_succ]
  refine wpAnyH_take (i := 18) (v := ?v18) (by simp only [List.getElem?_toArray, List.getElem?_cons_succ, List.getElem?_cons_zero]; rfl) (by kernel_rfl) (by kernel_rfl) (by kernel_rfl) (by exact fun _ _ _ h => h) (Or.inl ⟨by rfl, ?h18⟩) (by assumption) ?_
  case h18 => (intro W hSw; (try dsimp only at hSw); go_simp; try with_reducible rfl)
  try simp only [Act.put, List.setIfInBounds_toArray, List.set_cons_zero, List.set_cons_succ]
  refine wpAnyH_take (i := 19) (v := ?v19) (by simp only [List.getElem?_toArray, List.getElem?_cons_succ, List.getElem?_cons_zero]; rfl) (by kernel_rfl) (by kernel_rfl) (by kernel_rfl) (by exact fun _ _ _ h => h) (Or.inl ⟨by rfl, ?h19⟩) (by assumption) ?_
  case h19 => (intro W hSw; (try dsimp only at hSw); go_simp; try with_reducible rfl)
  try simp only [Act.put, List.setIfInBounds_toArray, List.set_cons_zero, List.set_cons_succ]
  refine wpAnyH_done (by kernel_rfl) ?_ _
  go_wp2_with fail
  go_ret
  exact ⟨rfl, hS16.2.2⟩
end Go.Proofs.Ytlgjoeabogbknaa
