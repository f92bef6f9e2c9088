/-
  Own work. The program's disk: Arm and Read.
-/
import Derived.Test.YtkbbpkbchniddaaPd
namespace Go.Proofs.Ytkbbpkbchniddaa
open Go.RowKit Go.Maps
set_option linter.unusedVariables false
set_option linter.unusedSimpArgs false

theorem wpList_allocW {P : Program} {ops : Array Oper} {rest : List Oper} {o : Oper} {a : Act} {w : World} {Q : Exit → Act → World → Prop} (hg : o.guard = none) (t : TypeId) (ho : o.op = .alloc t) (cells : Array Value) (hz : (P.info? t).bind (·.zero) = some (.agg cells))
    (h : wpList P ops Q rest (a.put o.dst (.pointer (some ⟨w.heap.size, 0, none⟩))) (w.alloc (.cells cells t))) : wpList P ops Q (o :: rest) a w := by
  refine wpList_plain hg fun K hK => ?_
  cases hi : P.info? t with
  | none => simp [hi] at hz
  | some i =>
    simp only [hi, Option.bind_some] at hz
    unfold Oper.wp
    simp [execOp, ho, Instr.alloc, zeroValue, typeInfo, hi, hz, Result.andThen, newVar]
    exact hK _ _ h
theorem zeroSecI : (Try.prog.info? 104).bind (·.zero) = some (.agg (cellsB (zer 512)).toArray) := by kernel_rfl
theorem infoSec : (Try.prog.info? 104).map (·.size) = some 512 := by kernel_rfl
theorem sizeSec {l : List UInt8} (h : l.length = 512) : (Try.prog.info? 104).map (·.size) = some (cellsB l).toArray.size := by
  rw [cellsB_size, h]; exact infoSec
theorem zeroSecRun (w : World) : (zeroValue 104).run Try.prog w = .ok (.agg (cellsB (zer 512)).toArray) w := by
  have h := zeroSecI
  cases hi : Try.prog.info? 104 with
  | none => simp [hi] at h
  | some i =>
    simp only [hi, Option.bind_some] at h
    simp [zeroValue, typeInfo, hi, h, Result.andThen]
theorem intK : Keyed Try.prog 3 := int_keyed Try.underlying3
theorem keyI {i : Nat} (h : i < 4096) : keyOf Try.prog 3 (.int .i64 (i : Int)) = some (kI i) := keyOf_int_mk Try.underlying3 (by
  have hm : IntKind.i64.min = -9223372036854775808 := rfl
  have hM : IntKind.i64.max = 9223372036854775807 := rfl
  simp [Lit.wf, hm, hM]
  omega)

section
variable {S : Nat → Prop} {w w' : World} {g gd gp n : Nat} {m m' : RM} {x x' : PX} {D : DU}
/-- The disk's own block is written, the rest stays. -/
theorem PrD.to (h : PrD w g gd gp n m x D) (ho : Only (fun j => j = g) w w') (hb : w'.heap[g]? = some (.cells (pdC gd gp n m' x') 93 (0, 0))) (h1 : m'.last = m.last) (h2 : m'.wait = m.wait) (h3 : m.wrote ≤ m'.wrote)
    (h4 : x'.TA = x.TA ∧ x'.tn = x.tn ∧ x'.tc = x.tc ∧ x'.tl = x.tl) (h5 : 0 ≤ m'.arms → x'.L = m'.arms) (h6 : (m'.way < 0 → x'.sc = 0 ∧ x'.tl = []) ∧ (0 ≤ m'.way → x'.sc = m'.way ∧ x'.tl = lst m'.coming)) (h7 : x'.ex = x.ex := by rfl) :
    PrD w' g gd gp n m' x' D := by
  obtain ⟨a1, a2, a3, a4⟩ := h4
  refine ⟨hb, ?_, ?_, ?_, ?_, h5, h6, h.d1, h.d2, h.d3, ?_⟩
  · rw [h1, h7]; exact (ho.block gd h.row.lt (fun e => h.d1 e.symm)).trans h.row
  · exact (ownsMap_only h.map ho (fun e => h.d2 e.symm)).mono h3
  · rw [h2]; exact h.mo
  · rw [a1, a2, a3, a4]; exact h.tr.only ho (fun k hk e => (h.dt k hk).1 e)
  · rw [a1, a2, a3]; exact h.dt
/-- A sector as it lies in the row. -/
theorem PrD.load (h : PrD w g gd gp n m x D) (ok : m.Ok n) {i : Nat} (hi : i < n) : (loadVar 104 ⟨gd, i * 512, none⟩).run Try.prog w = .ok (.agg (cellsB (lst (m.last.getD i emp))).toArray) w := by
  have hl : m.last[i]? = some (m.last.getD i emp) := by
    rw [List.getD_eq_getElem?_getD]
    obtain ⟨s, hs⟩ : ∃ s, m.last[i]? = some s := ⟨_, List.getElem?_eq_getElem (by rw [ok.nl]; exact hi)⟩
    rw [hs]; rfl
  have hs : (m.last.getD i emp).size = 512 := ok.ls _ (List.mem_of_getElem? hl)
  refine run_loadVar_part w gd (i * 512) _ 104 (cellsB (flat m.last) ++ x.ex) (cellsB (lst (m.last.getD i emp))) (0, 0) _ h.row Try.underlying104 rfl (by rw [cellsB_length, lst_len, hs]; exact infoSec) (fun j v hv => ?_)
  obtain ⟨b, hb, rfl⟩ := cellsB_at hv
  have := flat_sub ok.ls hl j b hb
  rw [Nat.mul_comm] at this
  rw [List.getElem?_append_left (by rw [cellsB_length]; exact (List.getElem?_eq_some_iff.1 this).1)]
  simp [cellsB, this]

theorem heap3 {w : World} {g : Nat} {cs : Array Value} {t : TypeId} (h : w.heap[g]? = some (.cells cs t (0, 0))) (a b c : Value) (i j k : Nat) :
    (((w.setCell ⟨g, i, none⟩ a).setCell ⟨g, j, none⟩ b).setCell ⟨g, k, none⟩ c).heap[g]? = some (.cells (((cs.setIfInBounds i a).setIfInBounds j b).setIfInBounds k c) t (0, 0)) :=
  heap_setCell_same _ g k _ t c (heap_setCell_same _ g j _ t b (heap_setCell_same w g i cs t a h))
theorem PrD.armed (h : PrD w g gd gp n m x D) (a p : Int) {b : Bool} {q : Int} (hb : b = decide (0 ≤ a)) (hq : q = (m.armM a p).part) :
    PrD (((w.setCell ⟨g, 3, none⟩ (.bool b)).setCell ⟨g, 4, none⟩ (.int .i64 a)).setCell ⟨g, 5, none⟩ (.int .i64 q)) g gd gp n (m.armM a p) { x with L := a } D := by
  subst hb hq
  refine h.to ((((Only.refl _ w).cell1 _ _).cell1 _ _).cell1 _ _) ?_ rfl rfl (Nat.le_refl _) ⟨rfl, rfl, rfl, rfl⟩ (fun h0 => ?_) h.wy
  · rw [heap3 h.blk]
    have e : decide (0 ≤ (m.armM a p).arms) = decide (0 ≤ a) := by
      rw [Bool.eq_iff_iff, decide_eq_true_iff, decide_eq_true_iff]
      show 0 ≤ (if a < 0 then (-1 : Int) else a) ↔ _
      split <;> omega
    unfold pdC
    rw [e]
    rfl
  · have h0' : 0 ≤ (if a < 0 then (-1 : Int) else a) := h0
    show a = (if a < 0 then (-1 : Int) else a)
    split
    · rename_i h1; rw [if_pos h1] at h0'; omega
    · rfl

set_option maxRecDepth 100000 in
theorem parm (a p : Int) (h : PrD w g gd gp n m x D) (ok : m.Ok n) (ha : -9223372036854775808 ≤ a ∧ a ≤ 9223372036854775807) (hp : -9223372036854775808 ≤ p ∧ p ≤ 9223372036854775807) :
    Calls Try.prog 20 #[.pointer (some ⟨g, 0, none⟩), .int .i64 a, .int .i64 p] w (RetP w g gd gp n x D (.tuple #[]) (m.armM a p)) := by
  have N := Lib.hid (pnone_any h ok)
  have c3 := h.ad
  have c4 := h.lf
  have c5 := h.pt
  have f3 := h.frozen 3
  have f4 := h.frozen 4
  have f5 := h.frozen 5
  have H := Lib.hid h
  clear h ok
  obtain ⟨a1, a2⟩ := ha
  obtain ⟨p1, p2⟩ := hp
  have hgt : ∀ b : Bool, b = decide (0 ≤ a) → ∀ q : Int, q = (m.armM a p).part → RetP w g gd gp n x D (.tuple #[]) (m.armM a p) (.returned (.tuple #[])) (((w.setCell ⟨g, 3, none⟩ (.bool b)).setCell ⟨g, 4, none⟩ (.int .i64 a)).setCell ⟨g, 5, none⟩ (.int .i64 q)) :=
    fun b hb q hq => ⟨rfl, ⟨_, H.out.armed a p hb hq, rfl, rfl, rfl⟩, (((Only.refl _ w).cell1 _ _).cell1 _ _).cell1 _ _⟩
  have HG := Lib.hid hgt
  clear hgt
  go_enter Try.func20, Try.ntmps20
  go_wp2_with (go_at_call 55; refine N.out.mono ?_; rintro e w1 ⟨rfl, rfl⟩)
  all_goals
    go_end0
    refine HG.out _ rfl _ ?_
    show _ = (if p < 0 then (0 : Int) else if 512 < p then 512 else p)
    repeat' split
    all_goals omega

/-- What lies in the map for sector k, and whether anything does. -/
def pendL (m : RM) (k : Nat) : List UInt8 := if (m.wait.getD k emp).size = 0 then zer 512 else lst (m.wait.getD k emp)
def pendB (m : RM) (k : Nat) : Bool := decide ((m.wait.getD k emp).size ≠ 0)
theorem RM.Ok.wsz (ok : m.Ok n) {k : Nat} (hk : k < n) : (m.wait.getD k emp).size = 0 ∨ (m.wait.getD k emp).size = 512 := by
  refine ok.ws _ ?_
  rw [List.getD_eq_getElem?_getD, List.getElem?_eq_getElem (by rw [ok.nw]; exact hk)]
  exact List.getElem_mem _
theorem RM.Ok.lsz (ok : m.Ok n) {k : Nat} (hk : k < n) : (m.last.getD k emp).size = 512 := by
  refine ok.ls _ ?_
  rw [List.getD_eq_getElem?_getD, List.getElem?_eq_getElem (by rw [ok.nl]; exact hk)]
  exact List.getElem_mem _
theorem pendL_len (ok : m.Ok n) {k : Nat} (hk : k < n) : (pendL m k).length = 512 := by
  unfold pendL
  split
  · exact zer_len 512
  · rw [lst_len]; have := ok.wsz hk; omega
theorem wpList_lookS {ops : Array Oper} {rest : List Oper} {o : Oper} {a : Act} {W : World} {Q : Exit → Act → World → Prop} (hg : o.guard = none) (mo xo : Operand) (hop : o.op = Op.lookup 89 mo xo true)
    (hm : a.eval mo = .map (some gp)) (k : Nat) (hx : a.eval xo = .int .i64 (k : Int)) (h : PrD W g gd gp n m x D) (ok : m.Ok n) (hk : k < n)
    (hK : wpList Try.prog ops Q rest (a.put o.dst (.tuple #[.agg (cellsB (pendL m k)).toArray, .bool (pendB m k)])) W) : wpList Try.prog ops Q (o :: rest) a W := by
  have n2 := ok.n2
  refine wpList_lookup_own_ok W hg mo xo 89 hop 3 104 intK Try.underlying89 secElem (zeroSecRun W) (.lit (.string (zer 512))) [] (secElem_mk (zer_len 512)) gp m.wrote D hm h.map _ (kI k) hx (keyI (by omega)) ?_
  intro v ps hv
  obtain ⟨l, rfl, hl, e⟩ := secElem_inv hv
  rw [Prod.mk.injEq] at e
  have e1 := e.1
  rw [h.mo.hi k hk]
  have el : l = pendL m k := by
    unfold pendL
    by_cases h0 : (m.wait.getD k emp).size = 0
    · rw [if_pos h0]
      rw [h.mo.no hk h0] at e1
      injection e1 with e1
      injection e1 with e1
      exact e1.symm
    · rw [if_neg h0]
      rw [h.mo.at_ k hk h0] at e1
      injection e1 with e1
      injection e1 with e1
      exact e1.symm
  subst el
  exact hK
theorem wpList_loadW {P : Program} {ops : Array Oper} {rest : List Oper} {o : Oper} {a : Act} {w : World} {Q : Exit → Act → World → Prop} (hg : o.guard = none) (ty : TypeId) (xo : Operand) (ho : o.op = .load ty xo) (ad : Addr) (hx : a.eval xo = .pointer (some ad)) (v : Value)
    (hl : (loadVar ty ad).run P w = .ok v w) (h : wpList P ops Q rest (a.put o.dst v) w) : wpList P ops Q (o :: rest) a w := by
  refine wpList_plain hg fun K hK => ?_
  unfold Oper.wp execOp
  simp only [ho, hx, Instr.loadAt, Instr.sureAddr, Sem.run_bind, Sem.run_pure, Result.andThen_ok, hl]
  exact hK _ _ h

set_option maxRecDepth 100000 in
set_option maxHeartbeats 1000000 in
theorem pread (i : Int) (h : PrD w g gd gp n m x D) (ok : m.Ok n) (hi : -9223372036854775808 ≤ i ∧ i ≤ 9223372036854775807) :
    Calls Try.prog 84 #[.pointer (some ⟨g, 0, none⟩), .int .i64 i] w (RetXE w (lst (m.readS n i)) (m.readE n i)) := by
  have C := Lib.hid (pcheck i h ok hi)
  have n2 := ok.n2
  by_cases he : m.readE n i = 0
  · have hb : 0 ≤ i ∧ i < n := by
      unfold RM.readE at he
      split at he
      · cases he
      · split at he
        · cases he
        · rename_i h2; omega
    obtain ⟨k, rfl⟩ : ∃ k : Nat, i = (k : Int) := ⟨i.toNat, by omega⟩
    have hk : k < n := by omega
    have er : m.readS n (k : Int) = m.at_ k := by unfold RM.readS; rw [if_pos he, Int.toNat_natCast]
    rw [er]
    rw [he] at C ⊢
    have ea : lst (m.at_ k) = if pendB m k = true then pendL m k else lst (m.last.getD k emp) := by
      unfold RM.at_ pendB pendL
      by_cases h0 : (m.wait.getD k emp).size = 0
      · have h0' : (m.wait.getD k ⟨#[]⟩).size = 0 := h0
        rw [if_pos h0', if_pos h0, h0]
        rfl
      · have h0' : ¬ (m.wait.getD k ⟨#[]⟩).size = 0 := h0
        rw [if_neg h0', if_neg h0, if_pos (by simpa using h0)]
        rfl
    rw [ea]
    have c0 := h.du
    have c1 := h.pm
    have hl := pendL_len ok hk
    have hl2 : (lst (m.last.getD k emp)).length = 512 := by rw [lst_len]; exact ok.lsz hk
    obtain ⟨S, hS⟩ : ∃ S, pendL m k = S := ⟨_, rfl⟩
    obtain ⟨T, hT⟩ : ∃ T, lst (m.last.getD k emp) = T := ⟨_, rfl⟩
    have Z0 : Hid ((w.alloc (.cells (cellsB (zer 512)).toArray 104)).heap[w.heap.size]? = some (.cells (cellsB (zer 512)).toArray 104 (0, 0))) := Lib.hid (heap_alloc_new w _)
    have Z1 : Hid (((w.alloc (.cells (cellsB (zer 512)).toArray 104)).setRow w.heap.size (cellsB S).toArray).heap[w.heap.size]? = some (.cells (cellsB S).toArray 104 (0, 0))) := Lib.hid (setRow_heap _ _ _ _ 104 _ Z0.out)
    have B1 : Hid (Below w.heap.size w ((w.alloc (.cells (cellsB (zer 512)).toArray 104)).setRow w.heap.size (cellsB S).toArray)) := Lib.hid (below_setRow ((Below.refl _ _).alloc (Nat.le_refl _) _) (Nat.le_refl _) _)
    have c0b := (h.only (Only.of_below (S := fun _ => False) B1.out (Nat.le_refl _)) (fun _ _ h => h)).du
    have LD := Lib.hid ((h.only (Only.of_below (S := fun _ => False) B1.out (Nat.le_refl _)) (fun _ _ h => h)).load ok hk)
    rw [hT] at LD
    have H := Lib.hid h
    have OK := Lib.hid ok
    have HS := Lib.hid hS
    rw [hS] at hl ⊢
    rw [hT] at hl2 ⊢
    have SS := Lib.hid (sizeSec hl)
    have ST := Lib.hid (sizeSec hl2)
    have HL := Lib.hid hl
    have HL2 := Lib.hid hl2
    obtain ⟨b, hb2⟩ : ∃ b, pendB m k = b := ⟨_, rfl⟩
    rw [hb2]
    have HB := Lib.hid hb2
    clear hb2 hl hl2 hS hT h ok er ea he hb
    cases b with
    | true =>
      rw [if_pos rfl]
      go_enter Try.func84, Try.ntmps84
      go_wp2_with (first
        | (go_at_call 93; refine C.out.mono ?_; rintro e w1 ⟨rfl, rfl⟩)
        | (at_lookup; refine wpList_lookS rfl _ _ rfl rfl k rfl H.out OK.out hk ?_; rw [HS.out, HB.out])
        | (refine wpList_allocW rfl 104 rfl _ zeroSecI ?_)
        | (refine wpList_store_row rfl 104 (.tmp 7) (.tmp 22) rfl w.heap.size (cellsB S).toArray rfl rfl 104 _ Z0.out SS.out (by rw [cellsB_size, cellsB_size, HL.out]; rfl) (cellsB_ones _) ?_))
      go_ret2
      exact ⟨_, _, _, rfl, OwnX.of_block Z1.out (Nat.le_refl _) HL.out.symm (by unfold maxLen; omega), B1.out⟩
    | false =>
      rw [if_neg (by decide)]
      go_enter Try.func84, Try.ntmps84
      go_wp2_with (first
        | (go_at_call 93; refine C.out.mono ?_; rintro e w1 ⟨rfl, rfl⟩)
        | (at_lookup; refine wpList_lookS rfl _ _ rfl rfl k rfl H.out OK.out hk ?_; rw [HS.out, HB.out])
        | (refine wpList_allocW rfl 104 rfl _ zeroSecI ?_)
        | (refine wpList_store_row rfl 104 (.tmp 7) (.tmp 22) rfl w.heap.size (cellsB S).toArray rfl rfl 104 _ Z0.out SS.out (by rw [cellsB_size, cellsB_size, HL.out]; rfl) (cellsB_ones _) ?_)
        | (refine wpList_loadW rfl 104 (.tmp 31) rfl ⟨gd, k * 512, none⟩ rfl _ LD.out ?_)
        | (refine wpList_store_row rfl 104 (.tmp 7) (.tmp 32) rfl w.heap.size (cellsB T).toArray rfl rfl 104 _ Z1.out ST.out (by rw [cellsB_size, cellsB_size, HL.out, HL2.out]) (cellsB_ones _) ?_))
      go_ret2
      exact ⟨_, _, _, rfl, OwnX.of_block (setRow_heap _ _ _ _ 104 _ Z1.out) (Nat.le_refl _) HL2.out.symm (by unfold maxLen; omega), below_setRow B1.out (Nat.le_refl _) _⟩
  · have er : m.readS n i = emp := by unfold RM.readS; rw [if_neg he]; rfl
    rw [er]
    obtain ⟨k, hk⟩ : ∃ k, m.readE n i = k := ⟨_, rfl⟩
    rw [hk] at he C ⊢
    clear er hk h ok hi n2
    go_enter Try.func84, Try.ntmps84
    go_wp2_with (go_at_call 93; refine C.out.mono ?_; rintro e w1 ⟨rfl, rfl⟩)
    go_ret2
    exact ⟨_, _, _, rfl, OwnX.nil _ _, Below.refl _ _⟩
end
end Go.Proofs.Ytkbbpkbchniddaa
