/-
  Own work. The program's disk in memory; its small functions.
-/
import Derived.Test.YtkbbpkbchniddaaPm
namespace Go.Proofs.Ytkbbpkbchniddaa
open Go.RowKit Go.Maps
set_option linter.unusedVariables false
set_option linter.unusedSimpArgs false

/-- What the disk's own block holds beside the sectors. -/
structure PX where
  L : Int
  sc : Int
  TA : Option Addr
  tn : Nat
  tc : Nat
  tl : List UInt8
  cd : Nat
  ex : List Value
def pdC (gd gp n : Nat) (m : RM) (x : PX) : Array Value :=
  #[.slice (some ⟨gd, 0, none⟩) n x.cd, .map (some gp), .bool m.off, .bool (decide (0 ≤ m.arms)), .int .i64 x.L, .int .i64 m.part, .int .i64 x.sc, .slice x.TA x.tn x.tc, .int .i64 (m.wrote : Int), .int .i64 (m.powers : Int)]
theorem OwnB.only {S : Nat → Prop} {w w' : World} {base : Nat} {v : Value} {l : List UInt8} (h : OwnB w base v l) (ho : Only S w w') (hS : ∀ k, v.ownBlock = some k → ¬ S k) : OwnB w' base v l := by
  refine ⟨h.1, ?_⟩
  rcases h.2 with h2 | ⟨g, c, cur, e, h3, hg, r⟩
  · exact .inl h2
  · exact .inr ⟨g, c, cur, e, h3, by rw [ho.block g (Array.getElem?_eq_some_iff.1 hg).1 (hS g (by rw [e]; rfl))]; exact hg, r⟩
/-- Bytes at the head of a block, then whatever. -/
def RowB (w : World) (g : Nat) (t : TypeId) (l : List UInt8) (E : List Value) : Prop := w.heap[g]? = some (.cells (cellsB l ++ E).toArray t (0, 0))
theorem RowB.lt {w : World} {g : Nat} {t : TypeId} {l : List UInt8} {E : List Value} (h : RowB w g t l E) : g < w.heap.size := (Array.getElem?_eq_some_iff.1 h).1
theorem RowB.far {w : World} {g : Nat} {t : TypeId} {l : List UInt8} {E : List Value} (h : RowB w g t l E) {p : Addr} (hp : g ≠ p.block) (u : Value) : RowB (w.setCell p u) g t l E := (heap_setCell_other w p g u hp).trans h
/-- One block's cells alone are written. -/
theorem Only.cell1 {w w' : World} {g : Nat} (h : Only (fun j => j = g) w w') (k : Nat) (v : Value) : Only (fun j => j = g) w (w'.setCell ⟨g, k, none⟩ v) := Only.setCell (S := fun j => j = g) h (p := ⟨g, k, none⟩) rfl v
/-- The disk at block g: its sectors' row at gd, its map at gp. -/
structure PrD (w : World) (g gd gp n : Nat) (m : RM) (x : PX) (D : DU) : Prop where
  blk : w.heap[g]? = some (.cells (pdC gd gp n m x) 93 (0, 0))
  row : RowB w gd 104 (flat m.last) x.ex
  map : w.ownsMap Try.prog 3 secElem gp m.wrote D
  mo : MapOf D n m.wait
  tr : OwnB w 0 (.slice x.TA x.tn x.tc) x.tl
  ar : 0 ≤ m.arms → x.L = m.arms
  wy : (m.way < 0 → x.sc = 0 ∧ x.tl = []) ∧ (0 ≤ m.way → x.sc = m.way ∧ x.tl = lst m.coming)
  d1 : g ≠ gd
  d2 : g ≠ gp
  d3 : gd ≠ gp
  dt : ∀ k, (Value.slice x.TA x.tn x.tc).ownBlock = some k → k ≠ g ∧ k ≠ gd ∧ k ≠ gp
/-- Its blocks. -/
def PrB (g gd gp : Nat) (x : PX) (k : Nat) : Prop := k = g ∨ k = gd ∨ k = gp ∨ (Value.slice x.TA x.tn x.tc).ownBlock = some k
section
variable {S : Nat → Prop} {w w' : World} {g gd gp n : Nat} {m m' : RM} {x : PX} {D : DU}
theorem ownsMap_only {b c : Nat} (h : w.ownsMap Try.prog 3 secElem b c D) (ho : Only S w w') (hS : ¬ S b) : w'.ownsMap Try.prog 3 secElem b c D := by
  have hlt := h.lt
  obtain ⟨es, clock, hb, r⟩ := h
  exact ⟨es, clock, (ho.block b hlt hS).trans hb, r⟩
theorem PrD.only (h : PrD w g gd gp n m x D) (ho : Only S w w') (hS : ∀ k, PrB g gd gp x k → ¬ S k) : PrD w' g gd gp n m x D :=
  ⟨(ho.block g (Array.getElem?_eq_some_iff.1 h.blk).1 (hS g (.inl rfl))).trans h.blk, (ho.block gd h.row.lt (hS gd (.inr (.inl rfl)))).trans h.row, ownsMap_only h.map ho (hS gp (.inr (.inr (.inl rfl)))), h.mo,
    h.tr.only ho (fun k hk => hS k (.inr (.inr (.inr hk)))), h.ar, h.wy, h.d1, h.d2, h.d3, h.dt⟩
theorem PrD.lt (h : PrD w g gd gp n m x D) : ∀ k, PrB g gd gp x k → k < w.heap.size := by
  rintro k (rfl | rfl | rfl | hk)
  · exact (Array.getElem?_eq_some_iff.1 h.blk).1
  · exact h.row.lt
  · exact h.map.lt
  · exact (h.tr.lt k hk).2
theorem PrD.drew (h : PrD w g gd gp n m x D) : PrD w.drew g gd gp n m x D := ⟨h.blk, h.row, h.map, h.mo, h.tr, h.ar, h.wy, h.d1, h.d2, h.d3, h.dt⟩
theorem PrD.cell (h : PrD w g gd gp n m x D) (k : Nat) : w.cell? ⟨g, k, none⟩ = (pdC gd gp n m x)[k]? := cell_of_row w g k _ _ (0, 0) h.blk
theorem PrD.frozen (h : PrD w g gd gp n m x D) (k : Nat) : w.frozen? ⟨g, k, none⟩ = false := frozen_of_row w g k _ _ h.blk
/-- A cell of the disk's own block is written; sectors, map and torn row stay. -/
theorem PrD.put (h : PrD w g gd gp n m x D) (k : Nat) (v : Value) {x' : PX} (e : (pdC gd gp n m x).setIfInBounds k v = pdC gd gp n m' x') (h1 : m'.last = m.last) (h2 : m'.wait = m.wait) (h3 : m.wrote ≤ m'.wrote)
    (h4 : x'.TA = x.TA ∧ x'.tn = x.tn ∧ x'.tc = x.tc ∧ x'.tl = x.tl) (h5 : 0 ≤ m'.arms → x'.L = m'.arms) (h6 : (m'.way < 0 → x'.sc = 0 ∧ x'.tl = []) ∧ (0 ≤ m'.way → x'.sc = m'.way ∧ x'.tl = lst m'.coming)) (h7 : x'.ex = x.ex := by rfl) :
    PrD (w.setCell ⟨g, k, none⟩ v) g gd gp n m' x' D := by
  obtain ⟨a1, a2, a3, a4⟩ := h4
  have ho : Only (fun k => k = g) w (w.setCell ⟨g, k, none⟩ v) := (Only.refl _ w).cell1 k v
  refine ⟨?_, ?_, ?_, ?_, ?_, h5, h6, h.d1, h.d2, h.d3, ?_⟩
  · rw [heap_setCell_same w g k _ _ v h.blk, e]
  · rw [h1, h7]; exact h.row.far (fun e => h.d1 e.symm) v
  · exact (ownsMap_only h.map ho (fun e => h.d2 e.symm)).mono h3
  · rw [h2]; exact h.mo
  · rw [a1, a2, a3, a4]; exact h.tr.only ho (fun k hk e => (h.dt k hk).1 e)
  · rw [a1, a2, a3]; exact h.dt
theorem PrD.du (h : PrD w g gd gp n m x D) : w.cell? ⟨g, 0, none⟩ = some (.slice (some ⟨gd, 0, none⟩) n x.cd) := h.cell 0
theorem PrD.pm (h : PrD w g gd gp n m x D) : w.cell? ⟨g, 1, none⟩ = some (.map (some gp)) := h.cell 1
theorem PrD.of (h : PrD w g gd gp n m x D) : w.cell? ⟨g, 2, none⟩ = some (.bool m.off) := h.cell 2
theorem PrD.ad (h : PrD w g gd gp n m x D) : w.cell? ⟨g, 3, none⟩ = some (.bool (decide (0 ≤ m.arms))) := h.cell 3
theorem PrD.lf (h : PrD w g gd gp n m x D) : w.cell? ⟨g, 4, none⟩ = some (.int .i64 x.L) := h.cell 4
theorem PrD.pt (h : PrD w g gd gp n m x D) : w.cell? ⟨g, 5, none⟩ = some (.int .i64 m.part) := h.cell 5
theorem PrD.wr (h : PrD w g gd gp n m x D) : w.cell? ⟨g, 8, none⟩ = some (.int .i64 (m.wrote : Int)) := h.cell 8
theorem PrD.pw (h : PrD w g gd gp n m x D) : w.cell? ⟨g, 9, none⟩ = some (.int .i64 (m.powers : Int)) := h.cell 9
end

/-- A call that hands v back and turns nothing. -/
def RetV (w : World) (v : Value) (e : Ending) (w' : World) : Prop := e = .returned v ∧ w = w'

section
variable {w : World} {g gd gp n : Nat} {m : RM} {x : PX} {D : DU}
set_option maxRecDepth 100000 in
theorem pnone_any (h : PrD w g gd gp n m x D) (ok : m.Ok n) : Calls Try.prog 55 #[.pointer (some ⟨g, 0, none⟩)] w (RetV w (.bool false)) := by
  have c0 := h.du
  have n1 := ok.n1
  have n2 := ok.n2
  clear h ok
  have e0 : ((n : Int) == 0) = false := by rw [beq_eq_false_iff_ne]; omega
  go_enter Try.func55, Try.ntmps55
  go_wp2_with fail
  go_ret
  exact ⟨rfl, rfl⟩
set_option maxRecDepth 100000 in
theorem pnone_nil (w : World) : Calls Try.prog 55 #[.pointer none] w (RetV w (.bool true)) := by
  go_enter Try.func55, Try.ntmps55
  go_wp2_with fail
  go_ret
  exact ⟨rfl, rfl⟩
def RM.pE (m : RM) : Int := if m.off = true then 8 else 0
set_option maxRecDepth 100000 in
theorem ppower_chk (h : PrD w g gd gp n m x D) (ok : m.Ok n) : Calls Try.prog 91 #[.pointer (some ⟨g, 0, none⟩)] w (RetV w (.int .i64 m.pE)) := by
  have c2 := h.of
  have N := Lib.hid (pnone_any h ok)
  clear h
  unfold RM.pE
  by_cases ho : m.off = true
  · rw [if_pos ho]
    rw [ho] at c2
    go_enter Try.func91, Try.ntmps91
    go_wp2_with (go_at_call 55; refine N.out.mono ?_; rintro e w1 ⟨rfl, rfl⟩)
    go_ret
    exact ⟨rfl, rfl⟩
  · rw [if_neg ho]
    rw [Bool.not_eq_true] at ho
    rw [ho] at c2
    go_enter Try.func91, Try.ntmps91
    go_wp2_with (go_at_call 55; refine N.out.mono ?_; rintro e w1 ⟨rfl, rfl⟩)
    go_ret
    exact ⟨rfl, rfl⟩
set_option maxRecDepth 100000 in
theorem pcheck (i : Int) (h : PrD w g gd gp n m x D) (ok : m.Ok n) (hi : -9223372036854775808 ≤ i ∧ i ≤ 9223372036854775807) : Calls Try.prog 93 #[.pointer (some ⟨g, 0, none⟩), .int .i64 i] w (RetV w (.int .i64 (m.readE n i))) := by
  have c0 := h.du
  have n1 := ok.n1
  have n2 := ok.n2
  have N := Lib.hid (ppower_chk h ok)
  clear h ok
  obtain ⟨hi1, hi2⟩ := hi
  unfold RM.readE
  unfold RM.pE at N
  by_cases ho : m.off = true
  · rw [if_pos ho] at N ⊢
    clear ho
    go_enter Try.func93, Try.ntmps93
    go_wp2_with (go_at_call 91; refine N.out.mono ?_; rintro e w1 ⟨rfl, rfl⟩)
    go_ret
    exact ⟨rfl, rfl⟩
  · rw [if_neg ho] at N ⊢
    clear ho
    by_cases h1 : i < 0
    · rw [if_pos (Or.inl h1)]
      go_enter Try.func93, Try.ntmps93
      go_wp2_with (go_at_call 91; refine N.out.mono ?_; rintro e w1 ⟨rfl, rfl⟩)
      go_ret
      exact ⟨rfl, rfl⟩
    · by_cases h2 : (n : Int) ≤ i
      · rw [if_pos (Or.inr h2)]
        go_enter Try.func93, Try.ntmps93
        go_wp2_with (go_at_call 91; refine N.out.mono ?_; rintro e w1 ⟨rfl, rfl⟩)
        go_ret
        exact ⟨rfl, rfl⟩
      · rw [if_neg (by omega)]
        go_enter Try.func93, Try.ntmps93
        go_wp2_with (go_at_call 91; refine N.out.mono ?_; rintro e w1 ⟨rfl, rfl⟩)
        go_ret
        exact ⟨rfl, rfl⟩
set_option maxRecDepth 100000 in
theorem plen (h : PrD w g gd gp n m x D) (ok : m.Ok n) : Calls Try.prog 47 #[.pointer (some ⟨g, 0, none⟩)] w (RetV w (.int .i64 (n : Int))) := by
  have c0 := h.du
  have n1 := ok.n1
  have n2 := ok.n2
  have N := Lib.hid (pnone_any h ok)
  clear h ok
  go_enter Try.func47, Try.ntmps47
  go_wp2_with (go_at_call 55; refine N.out.mono ?_; rintro e w1 ⟨rfl, rfl⟩)
  go_ret
  exact ⟨rfl, rfl⟩
set_option maxRecDepth 100000 in
theorem pdead (h : PrD w g gd gp n m x D) (ok : m.Ok n) : Calls Try.prog 21 #[.pointer (some ⟨g, 0, none⟩)] w (RetV w (.bool m.off)) := by
  have c2 := h.of
  have N := Lib.hid (pnone_any h ok)
  clear h ok
  go_enter Try.func21, Try.ntmps21
  go_wp2_with (go_at_call 55; refine N.out.mono ?_; rintro e w1 ⟨rfl, rfl⟩)
  go_ret
  exact ⟨rfl, rfl⟩
set_option maxRecDepth 100000 in
theorem pwrites (h : PrD w g gd gp n m x D) (ok : m.Ok n) : Calls Try.prog 35 #[.pointer (some ⟨g, 0, none⟩)] w (RetV w (.int .i64 (m.wrote : Int))) := by
  have c8 := h.wr
  have N := Lib.hid (pnone_any h ok)
  clear h ok
  go_enter Try.func35, Try.ntmps35
  go_wp2_with (go_at_call 55; refine N.out.mono ?_; rintro e w1 ⟨rfl, rfl⟩)
  go_ret
  exact ⟨rfl, rfl⟩
set_option maxRecDepth 100000 in
theorem plives (h : PrD w g gd gp n m x D) (ok : m.Ok n) : Calls Try.prog 51 #[.pointer (some ⟨g, 0, none⟩)] w (RetV w (.int .i64 (m.powers : Int))) := by
  have c9 := h.pw
  have N := Lib.hid (pnone_any h ok)
  clear h ok
  go_enter Try.func51, Try.ntmps51
  go_wp2_with (go_at_call 55; refine N.out.mono ?_; rintro e w1 ⟨rfl, rfl⟩)
  go_ret
  exact ⟨rfl, rfl⟩
end
/-- A call that leaves the disk as m', turns only its own block, the rest as it was. -/
def RetP (w : World) (g gd gp n : Nat) (x : PX) (D : DU) (v : Value) (m' : RM) (e : Ending) (w' : World) : Prop :=
  e = .returned v ∧ (∃ x', PrD w' g gd gp n m' x' D ∧ x'.TA = x.TA ∧ x'.tn = x.tn ∧ x'.tc = x.tc) ∧ Only (fun k => k = g) w w'
section
variable {w : World} {g gd gp n : Nat} {m : RM} {x : PX} {D : DU}
set_option maxRecDepth 100000 in
theorem pfails (h : PrD w g gd gp n m x D) (ok : m.Ok n) : Calls Try.prog 92 #[.pointer (some ⟨g, 0, none⟩)] w (RetP w g gd gp n x D (.bool (!m.goB)) m.goM) := by
  have c3 := h.ad
  have c4 := h.lf
  have c2 := h.of
  have f2 := h.frozen 2
  have f4 := h.frozen 4
  obtain ⟨a1, a2⟩ := ok.ar
  have H := Lib.hid h
  clear h ok
  by_cases h1 : m.arms < 0
  · have e1 : m.goB = true := by unfold RM.goB; rw [decide_eq_true_iff]; omega
    have e2 : m.goM = m := by unfold RM.goM; rw [if_pos h1]
    have e3 : decide (0 ≤ m.arms) = false := by rw [decide_eq_false_iff_not]; omega
    rw [e1, e2]
    rw [e3] at c3
    clear e1 e2 e3 a1 a2
    go_enter Try.func92, Try.ntmps92
    go_wp2_with fail
    go_ret
    exact ⟨rfl, ⟨x, H.out, rfl, rfl, rfl⟩, Only.refl _ _⟩
  · have e3 : decide (0 ≤ m.arms) = true := by rw [decide_eq_true_iff]; omega
    rw [e3] at c3
    have eL := H.out.ar (by omega)
    obtain ⟨a, ha⟩ : ∃ a, m.arms = a := ⟨_, rfl⟩
    rw [eL, ha] at c4
    rw [ha] at a1 a2 h1
    have HA := Lib.hid ha
    have HL := Lib.hid eL
    clear ha e3 eL
    by_cases h2 : 0 < a
    · have e1 : m.goB = true := by unfold RM.goB; rw [HA.out, decide_eq_true_iff]; omega
      have e2 : m.goM = { m with arms := a - 1 } := by unfold RM.goM; rw [HA.out, if_neg h1, if_pos h2]
      rw [e1, e2]
      clear e1 e2
      go_enter Try.func92, Try.ntmps92
      go_wp2_with fail
      go_ret
      refine ⟨rfl, ⟨{ x with L := a - 1 }, H.out.put 4 (.int .i64 (a - 1)) ?_ rfl rfl (Nat.le_refl _) ⟨rfl, rfl, rfl, rfl⟩ (fun _ => rfl) H.out.wy, rfl, rfl, rfl⟩, (Only.refl _ _).cell1 _ _⟩
      have eb : decide (0 ≤ m.arms) = decide (0 ≤ a - 1) := by rw [HA.out, Bool.eq_iff_iff, decide_eq_true_iff, decide_eq_true_iff]; omega
      unfold pdC
      rw [eb]
      rfl
    · have h0 : a = 0 := by omega
      subst h0
      have e1 : m.goB = false := by unfold RM.goB; rw [HA.out]; rfl
      have e2 : m.goM = { m with off := true } := by unfold RM.goM; rw [HA.out, if_neg (by omega), if_neg (by omega)]
      rw [e1, e2]
      clear e1 e2
      go_enter Try.func92, Try.ntmps92
      go_wp2_with fail
      go_ret
      exact ⟨rfl, ⟨x, H.out.put 2 (.bool true) rfl rfl rfl (Nat.le_refl _) ⟨rfl, rfl, rfl, rfl⟩ H.out.ar H.out.wy, rfl, rfl, rfl⟩, (Only.refl _ _).cell1 _ _⟩
theorem max_min (p : Int) : (if p < 0 then (0 : Int) else if 512 < p then 512 else p) = min (max p 0) 512 := by
  split
  · omega
  · split <;> omega
end
end Go.Proofs.Ytkbbpkbchniddaa
