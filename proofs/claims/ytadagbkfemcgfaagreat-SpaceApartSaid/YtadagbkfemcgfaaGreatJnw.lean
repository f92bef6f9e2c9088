/-
  Own work. The journal: newest.
-/
import Derived.Test.YtadagbkfemcgfaaGreatJre
namespace Go.Proofs.YtadagbkfemcgfaaGreat
open Go.RowKit Go.Maps
set_option linter.unusedVariables false
set_option linter.unusedSimpArgs false

/-- The port behind k reads of anchors, the newest of these anchors. -/
def nwP (p : Pt) (n : Nat) : Nat → Pt
  | 0 => p
  | i + 1 => (nwP p n i).rd n (i : Int)
def nwM (p : Pt) (n : Nat) : Nat → Mk
  | 0 => ⟨0, 0, 0, 0⟩
  | i + 1 => if markB n ((nwP p n i).rdS n (i : Int)) = true ∧ (nwM p n i).num < (markS ((nwP p n i).rdS n (i : Int))).num then markS ((nwP p n i).rdS n (i : Int)) else nwM p n i
theorem nwP_m (p : Pt) (n i : Nat) : (nwP p n i).m = p.m := by
  induction i with
  | zero => rfl
  | succ k ih =>
    rw [← ih]
    show ((nwP p n k).rd n (k : Int)).m = _
    unfold Pt.rd
    split <;> rfl
section
variable {Z : DK} {w w' W W' : World} {g gd gp n : Nat} {S T : Nat → Prop} {e : Int} {m : RM} {p : Pt} {cs : Array Value}
theorem LeftP.belowR' {t : TypeId} (l : LeftP Z w g gd S n cs t p W) (hb : Below W.heap.size W W') : LeftP Z w g gd S n cs t p W' := by
  obtain ⟨S', d', hs, h1, ho⟩ := l
  exact ⟨S', Z.only d' (Only.of_below (S := fun _ => False) hb (Nat.le_refl _)) (fun _ _ h => h), hs, h1.below hb, ho.trans ((Only.of_below (S := fun k => S k ∨ k = g) hb (Nat.le_refl _)))⟩
/-- What stands in a round: the port, the best mark so far, the place of the result. -/
def NwR (Z : DK) (w0 : World) (g gd : Nat) (S : Nat → Prop) (n : Nat) (cs : Array Value) (p : Pt) (gr gb : Nat) (k : Nat) (W : World) : Prop :=
  ∃ S', Z.D W gd S' n p.m ∧ (∀ k, S' k → S k ∨ w0.heap.size ≤ k) ∧ PoB W g gd (nwP p n k).e (cs.setIfInBounds 1 (.int .i64 (nwP p n k).e)) 104 ∧ Only (fun k => S k ∨ k = g ∨ k = gb) w0 W ∧
    W.heap[gb]? = some (.cells (mkC (nwM p n k)) 101 (0, 0)) ∧ W.heap[gr]? = some (.cells (mkC ⟨0, 0, 0, 0⟩) 101 (0, 0))
/-- The port's state beside a fresh block at gm. -/
def LeftG (Z : DK) (w : World) (g gd : Nat) (S : Nat → Prop) (n : Nat) (cs : Array Value) (t : TypeId) (p : Pt) (gm : Nat) (k : Mk) (W : World) : Prop :=
  ∃ S2, Z.D W gd S2 n p.m ∧ (∀ k, S2 k → S k ∨ w.heap.size ≤ k) ∧ PoB W g gd p.e (cs.setIfInBounds 1 (.int .i64 p.e)) t ∧ Only (fun k => S k ∨ k = g) w W ∧ ¬ S2 gm ∧ W.heap[gm]? = some (.cells (mkC k) 101 (0, 0)) ∧ w.heap.size ≤ gm
theorem LeftG.left {t : TypeId} {gm : Nat} {k : Mk} (l : LeftG Z w g gd S n cs t p gm k W) : LeftP Z w g gd S n cs t p W := by
  obtain ⟨S2, d, hs, b, o, _, _, _⟩ := l
  exact ⟨S2, d, hs, b, o⟩
theorem LeftP.ptr {t : TypeId} (l : LeftP Z w g gd S n cs t p W) : W.cell? ⟨g, 0, none⟩ = some (.pointer (some ⟨gd, 0, none⟩)) := by
  obtain ⟨S2, d, hs, b, o⟩ := l
  exact b.d
theorem LeftP.gm {t : TypeId} (l : LeftP Z w g gd S n cs t p W) (k : Mk) : LeftG Z w g gd S n cs t p W.heap.size k (W.alloc (.cells (mkC k) 101)) := by
  obtain ⟨S2, d, hs, b, o⟩ := l
  have hb : Below W.heap.size W (W.alloc (.cells (mkC k) 101)) := (Below.refl _ W).alloc (Nat.le_refl _) _
  exact ⟨S2, Z.only d (Only.of_below (S := fun _ => False) hb (Nat.le_refl _)) (fun _ _ h => h), hs, b.below hb, o.trans (Only.of_below hb (Nat.le_refl _)), fun hh => by have := Z.lt d _ hh; omega, heap_alloc_new W _, o.size⟩
theorem LeftG.below {t : TypeId} {gm : Nat} {k : Mk} (l : LeftG Z w g gd S n cs t p gm k W) (hb : Below W.heap.size W W') : LeftG Z w g gd S n cs t p gm k W' := by
  obtain ⟨S2, d, hs, b, o, h1, h2, h3⟩ := l
  exact ⟨S2, Z.only d (Only.of_below (S := fun _ => False) hb (Nat.le_refl _)) (fun _ _ h => h), hs, b.below hb, o.trans (Only.of_below hb (Nat.le_refl _)), h1, (hb.block gm (Array.getElem?_eq_some_iff.1 h2).1).trans h2, h3⟩
theorem LeftG.read {t : TypeId} {w1 : World} {gm : Nat} {k : Mk} (hb : Below w.heap.size w w1) (hm : w1.heap[gm]? = some (.cells (mkC k) 101 (0, 0))) (h1 : w.heap.size ≤ gm) (hlt : ∀ k, S k → k < w.heap.size) (hg : g < w.heap.size) (l : LeftP Z w1 g gd S n cs t p W) : LeftG Z w g gd S n cs t p gm k W := by
  obtain ⟨S2, d, hs, b, o⟩ := l
  have hm1 : gm < w1.heap.size := (Array.getElem?_eq_some_iff.1 hm).1
  refine ⟨S2, d, fun k hk => (hs k hk).imp id fun h => Nat.le_trans hb.size h, b, (Only.of_below hb (Nat.le_refl _)).trans o, fun hh => ?_, (o.block gm hm1 (fun hh => ?_)).trans hm, h1⟩
  · rcases hs _ hh with h2 | h2
    · have := hlt _ h2; omega
    · omega
  · rcases hh with h2 | h2
    · have := hlt _ h2; omega
    · omega
theorem LeftG.row {t : TypeId} {gm : Nat} {k k' : Mk} (l : LeftG Z w g gd S n cs t p gm k W) (hg : g < w.heap.size) : LeftG Z w g gd S n cs t p gm k' (W.setRow gm (mkC k')) := by
  obtain ⟨S2, d, hs, b, o, h1, h2, h3⟩ := l
  have ho : Only (fun k => k = gm) W (W.setRow gm (mkC k')) := (Only.refl _ W).setRow (S := fun k => k = gm) rfl _
  exact ⟨S2, Z.only d ho (fun k hk hh => h1 (hh ▸ hk)), hs, b.only ho (by omega), o.trans' ho (fun k hk hh => by omega), h1, setRow_heap W gm _ (mkC k') 101 _ h2, h3⟩
theorem NwR.next {w0 wr w9 w10 : World} {S' : Nat → Prop} {gr gb gm k : Nat} {e1 : Int} {q' : Pt} {x : Mk} (ho : Only (fun k => S k ∨ k = g ∨ k = gb) w0 wr) (hs : ∀ k, S' k → S k ∨ w0.heap.size ≤ k)
    (lg : LeftG Z wr.drew g gd S' n (cs.setIfInBounds 1 (.int .i64 e1)) 104 q' gm x w9) (hq : nwP p n (k + 1) = q') (hpm : q'.m = p.m) (hgb : g ≠ gb) (hb1 : ¬ S' gb) (hb2 : gb < wr.heap.size)
    (h10 : Only (fun k => k = gb) w9 w10) (hv : w10.heap[gb]? = some (.cells (mkC (nwM p n (k + 1))) 101 (0, 0))) (hr : w10.heap[gr]? = some (.cells (mkC ⟨0, 0, 0, 0⟩) 101 (0, 0))) : NwR Z w0 g gd S n cs p gr gb (k + 1) w10 := by
  obtain ⟨S9, d9, hs9, b9, o9, _, _, _⟩ := lg
  have hsz := ho.size
  have h9b : ¬ S9 gb := fun hh => by
    rcases hs9 _ hh with h1 | h1
    · exact hb1 h1
    · exact absurd hb2 (by have : wr.heap.size ≤ gb := h1; omega)
  refine ⟨S9, ?_, fun k hk => ?_, ?_, ?_, hv, hr⟩
  · rw [← hpm]
    exact Z.only d9 h10 (fun k hk hh => h9b (hh ▸ hk))
  · rcases hs9 k hk with h1 | h1
    · exact hs k h1
    · exact .inr (Nat.le_trans hsz h1)
  · rw [hq]
    have := b9.only h10 hgb
    rwa [Array.setIfInBounds_setIfInBounds] at this
  · have o19 : Only (fun k => S k ∨ k = g ∨ k = gb) w0 w9 := (show Only _ w0 wr.drew from ho.drew).trans' o9 (fun k hk hh => by
      rcases hh with h1 | h1
      · rcases hs k h1 with h2 | h2
        · exact .inl h2
        · omega
      · exact .inr (.inl h1))
    exact o19.trans' h10 (fun k hk hh => .inr (.inr hh))
theorem res_mk {fn : Func} {p : Tmp} (h : fn.results = #[.cell p 101]) (tmps : Array Value) {w : World} {g : Nat} {k : Mk} (hp : tmps.getD p undef = .pointer (some ⟨g, 0, none⟩)) (hB : w.heap[g]? = some (.cells (mkC k) 101 (0, 0))) :
    (results fn tmps).run Tryz.prog w = .ok (.agg (mkC k)) w :=
  results_cell_row h tmps w g 101 _ (0, 0) _ hp hB Tryz.underlying101 rfl (by kernel_rfl)
theorem step_storeMw {w : World} {ops : Array Oper} {o : Oper} {a : Act} {K : Act → World → Prop} {Q : Exit → Act → World → Prop} {F : Prop} (hgd : o.guard = none) (x y : Operand) (ho : o.op = .store 101 x y)
    (g : Nat) (k : Mk) (hx : a.eval x = .pointer (some ⟨g, 0, none⟩)) (hy : a.eval y = .agg (mkC k)) (old : Array Value) (hB : w.heap[g]? = some (.cells old 101 (0, 0))) (ho' : old.size = 4)
    (h : ∀ w', w' = w.setRow g (mkC k) → K (a.put o.dst undef) w') : if Region.wanted o (yielded ops a.tmps) = true then Oper.wp Tryz.prog o a w K Q else F :=
  step_storeM hgd x y ho g k hx hy old hB ho' (h _ rfl)
set_option maxRecDepth 100000 in
set_option maxHeartbeats 2000000 in
theorem newest_any (d : Z.D w gd S n p.m) (ok : p.m.Ok n) (h : PoB w g gd p.e cs 104) (hg : ¬ S g) :
    Calls Tryz.prog 53 #[.pointer (some ⟨g, 0, none⟩)] w (fun en W' => en = .returned (.agg (mkC (nwM p n 2))) ∧ LeftP Z w g gd S n cs 104 (nwP p n 2) W') := by
  obtain ⟨w0, hw0⟩ : ∃ w0, (w.alloc (.cells #[.int .u64 0, .int .u64 0, .int .u32 0, .int .u32 0] 101)).alloc (.cells #[.int .u64 0, .int .u64 0, .int .u32 0, .int .u32 0] 101) = w0 := ⟨_, rfl⟩
  have hb : Below w.heap.size w w0 := by rw [← hw0]; exact ((Below.refl _ _).alloc (Nat.le_refl _) _).alloc (by simp) _
  have hr : w0.heap[w.heap.size]? = some (.cells (mkC ⟨0, 0, 0, 0⟩) 101 (0, 0)) := by
    rw [← hw0]
    exact (Below.heap_alloc _ _ _ (by simp)).trans (heap_alloc_new w _)
  have hv : w0.heap[w.heap.size + 1]? = some (.cells (mkC ⟨0, 0, 0, 0⟩) 101 (0, 0)) := by
    rw [← hw0]
    have := heap_alloc_new (w.alloc (.cells #[.int .u64 0, .int .u64 0, .int .u32 0, .int .u32 0] 101)) (.cells #[.int .u64 0, .int .u64 0, .int .u32 0, .int .u32 0] 101)
    simpa [mkC] using this
  have hlt : g < w.heap.size := h.lt
  have h0 := h.below hb
  have d0 : Z.D w0 gd S n p.m := Z.only d (Only.of_below (S := fun _ => False) hb (Nat.le_refl _)) (fun _ _ h => h)
  have hn : Hid (NwR Z w0 g gd S n cs p w.heap.size (w.heap.size + 1) 0 w0) := Lib.hid ⟨S, d0, fun _ hk => .inl hk, by rw [show nwP p n 0 = p from rfl, h0.same]; exact h0, Only.refl _ _, hv, hr⟩
  have HLS : Hid (∀ k, S k → k < w.heap.size) := Lib.hid (fun k hk => Z.lt d k hk)
  have W0 := Lib.hid hw0
  have B0 := Lib.hid hb
  have OK := Lib.hid ok
  have HG := Lib.hid hg
  have hl0 : w.heap.size + 1 < w0.heap.size := (Array.getElem?_eq_some_iff.1 hv).1
  have HL0 := Lib.hid hl0
  obtain ⟨R, hR⟩ : ∃ R, nwM p n 2 = R := ⟨_, rfl⟩
  obtain ⟨Q2, hQ2⟩ : ∃ R, nwP p n 2 = R := ⟨_, rfl⟩
  rw [hR, hQ2]
  have HRR := Lib.hid hR
  have HQQ := Lib.hid hQ2
  clear hw0 hb hr hv h h0 d d0 ok hg hl0 hR hQ2
  go_enter Tryz.func53, Tryz.ntmps53
  go_upto_region 2 with fail
  rw [W0.out]
  go_wp2_with fail
  go_loopw [7] (fun i wr => ∃ k : Nat, k ≤ 2 ∧ i = .int .i64 (k : Int) ∧ NwR Z w0 g gd S n cs p w.heap.size (w.heap.size + 1) k wr) (fun i _ => 2 - (Go.RowKit.intOf i).toNat)
  case atStart => exact ⟨0, by omega, rfl, hn.out⟩
  case round =>
    obtain ⟨k, hk, rfl, hrel⟩ := hrel
    by_cases hlt' : k < 2
    · obtain ⟨S', d', hs', hb', ho', hv', hr'⟩ := hrel
      have hg' : ¬ S' g := fun hh => by
        rcases hs' g hh with h1 | h1
        · exact HG.out h1
        · have := HL0.out; omega
      have hgv : ¬ S' (w.heap.size + 1) := fun hh => by
        rcases hs' _ hh with h1 | h1
        · have := HLS.out _ h1; omega
        · have := HL0.out; omega
      have hgr : ¬ S' w.heap.size := fun hh => by
        rcases hs' _ hh with h1 | h1
        · have := HLS.out _ h1; omega
        · have := HL0.out; omega
      have hsz : w.heap.size + 1 < wr.heap.size := (Array.getElem?_eq_some_iff.1 hv').1
      have hpm := nwP_m p n k
      have hpm1 := nwP_m p n (k + 1)
      obtain ⟨q, hq⟩ : ∃ q, nwP p n k = q := ⟨_, rfl⟩
      obtain ⟨q', hq'⟩ : ∃ q', nwP p n (k + 1) = q' := ⟨_, rfl⟩
      have hqq : q.rd n (k : Int) = q' := by rw [← hq, ← hq']; rfl
      obtain ⟨s, hs⟩ : ∃ s, q.rdS n (k : Int) = s := ⟨_, rfl⟩
      have okq : q.m.Ok n := by rw [← hq, hpm]; exact OK.out
      have hsl : s.length = 512 := by rw [← hs]; exact q.rdS_len okq _
      obtain ⟨best, hbest⟩ : ∃ b, nwM p n k = b := ⟨_, rfl⟩
      obtain ⟨x, hx⟩ : ∃ x, markS s = x := ⟨_, rfl⟩
      obtain ⟨b, hbb⟩ : ∃ b, markB n s = b := ⟨_, rfl⟩
      have hnew : nwM p n (k + 1) = if b = true ∧ best.num < x.num then x else best := by
        show (if markB n ((nwP p n k).rdS n (k : Int)) = true ∧ (nwM p n k).num < (markS ((nwP p n k).rdS n (k : Int))).num then markS ((nwP p n k).rdS n (k : Int)) else nwM p n k) = _
        rw [hq, hs, hx, hbb, hbest]
      rw [hq] at hb' hpm
      rw [hq'] at hpm1
      rw [hbest] at hv'
      rw [← hpm] at d'
      obtain ⟨cq, hcq⟩ : ∃ c, cs.setIfInBounds 1 (.int .i64 q.e) = c := ⟨_, rfl⟩
      rw [hcq] at hb'
      have CR : Hid (∀ W, Below wr.heap.size wr W → Calls Tryz.prog 67 #[.pointer (some ⟨g, 0, none⟩), .int .i64 (k : Int)] W (fun en W' => en = .returned (.agg (cellsB s).toArray) ∧ LeftP Z W g gd S' n cq 104 q' W')) := Lib.hid (fun W hW => by
        have := pord_any q (k : Int) (Z.only d' (Only.of_below (S := fun _ => False) hW (Nat.le_refl _)) (fun _ _ h => h)) okq (by omega) (hb'.below hW) hg'
        rwa [hqq, hs] at this)
      have CM : Hid (∀ W0 W, LeftP Z W0 g gd S' n cq 104 q' W → Calls Tryz.prog 74 #[.agg (cellsB s).toArray, .pointer (some ⟨gd, 0, none⟩)] W (RetMk W x b)) := Lib.hid (fun W0 W hL => by
        obtain ⟨S2, d2, _⟩ := hL
        rw [hpm1] at d2
        have := markOf_any s d2 OK.out hsl
        rwa [hx, hbb] at this)
      have GD : Hid (PoB wr g gd q.e cq 104) := Lib.hid hb'
      have HV := Lib.hid hv'
      have HR := Lib.hid hr'
      have HO := Lib.hid ho'
      have HSZ := Lib.hid hsz
      have HS' := Lib.hid hs'
      have HLT' : Hid (∀ k, S' k → k < wr.heap.size) := Lib.hid (fun k hk => Z.lt d' k hk)
      have GLT : Hid (g < wr.heap.size) := Lib.hid hb'.lt
      have G3 := Lib.hid (And.intro hg' (And.intro hgv hgr))
      have HN := Lib.hid hnew
      have HPM1 := Lib.hid hpm1
      have HCQ := Lib.hid hcq
      have HQ' := Lib.hid hq'
      have gdc := hb'.d
      clear hpm hpm1 hq hq' hqq hs okq hsl hbest hx hbb hnew d' hcq hb' hv' hr' ho' hs' hg' hgv hgr hsz
      go_wp2_with fail
      refine wp_region_held_drew (S := fun W => W.cell? ⟨g, 0, none⟩ = some (.pointer (some ⟨gd, 0, none⟩))) (by kernel_rfl) (by exact gdc) (fun hHeld => ?_)
      refine wpAnyH_take (i := 0) (v := ?v0a) (by simp only [List.getElem?_toArray, List.getElem?_cons_succ, List.getElem?_cons_zero]; rfl) (by kernel_rfl) (by kernel_rfl) (by kernel_rfl) (by exact fun _ _ _ h => h) (Or.inl ⟨by rfl, ?h0a⟩) (by assumption) ?_
      case h0a => (intro W hSw; (try dsimp only at hSw); go_simp; try with_reducible rfl)
      try simp only [Act.put, List.setIfInBounds_toArray, List.set_cons_zero, List.set_cons_succ]
      refine wpAnyH_take (i := 1) (v := ?v1a) (by simp only [List.getElem?_toArray, List.getElem?_cons_succ, List.getElem?_cons_zero]; rfl) (by kernel_rfl) (by kernel_rfl) (by kernel_rfl) (by exact fun _ _ _ h => h) (Or.inl ⟨by rfl, ?h1a⟩) (by assumption) ?_
      case h1a => (intro W hSw; (try dsimp only at hSw); go_simp; try with_reducible rfl)
      try simp only [Act.put, List.setIfInBounds_toArray, List.set_cons_zero, List.set_cons_succ]
      refine wpAnyH_take (i := 2) (v := ?v2a) (by simp only [List.getElem?_toArray, List.getElem?_cons_succ, List.getElem?_cons_zero]; rfl) (by kernel_rfl) (by kernel_rfl) (by kernel_rfl) (by exact fun _ _ _ h => h) (Or.inl ⟨by rfl, ?h2a⟩) (by assumption) ?_
      case h2a => (intro W hSw; (try dsimp only at hSw); go_simp; try with_reducible rfl)
      try simp only [Act.put, List.setIfInBounds_toArray, List.set_cons_zero, List.set_cons_succ]
      refine wpAnyH_take (i := 3) (v := ?v3a) (by simp only [List.getElem?_toArray, List.getElem?_cons_succ, List.getElem?_cons_zero]; rfl) (by kernel_rfl) (by kernel_rfl) (by kernel_rfl) (by exact fun _ _ _ h => h) (Or.inl ⟨by rfl, ?h3a⟩) (by assumption) ?_
      case h3a => (intro W hSw; (try dsimp only at hSw); go_simp; try with_reducible rfl)
      try simp only [Act.put, List.setIfInBounds_toArray, List.set_cons_zero, List.set_cons_succ]
      refine wpAnyH_take (i := 5) (v := ?v5a) (by simp only [List.getElem?_toArray, List.getElem?_cons_succ, List.getElem?_cons_zero]; rfl) (by kernel_rfl) (by kernel_rfl) (by kernel_rfl) (by exact fun _ _ _ h => h) (Or.inl ⟨by rfl, ?h5a⟩) (by assumption) ?_
      case h5a => (intro W hSw; (try dsimp only at hSw); go_simp; try with_reducible rfl)
      try simp only [Act.put, List.setIfInBounds_toArray, List.set_cons_zero, List.set_cons_succ]
      refine wpAnyH_take (i := 6) (v := ?v6a) (by simp only [List.getElem?_toArray, List.getElem?_cons_succ, List.getElem?_cons_zero]; rfl) (by kernel_rfl) (by kernel_rfl) (by kernel_rfl) (by exact fun _ _ _ h => h) (Or.inl ⟨by rfl, ?h6a⟩) (by assumption) ?_
      case h6a => (intro W hSw; (try dsimp only at hSw); go_simp; try with_reducible rfl)
      try simp only [Act.put, List.setIfInBounds_toArray, List.set_cons_zero, List.set_cons_succ]
      refine wpAnyH_take (i := 7) (v := ?v7a) (by simp only [List.getElem?_toArray, List.getElem?_cons_succ, List.getElem?_cons_zero]; rfl) (by kernel_rfl) (by kernel_rfl) (by kernel_rfl) (by exact fun _ _ _ h => h) (Or.inl ⟨by rfl, ?h7a⟩) (by assumption) ?_
      case h7a => (intro W hSw; (try dsimp only at hSw); go_simp; try with_reducible rfl)
      try simp only [Act.put, List.setIfInBounds_toArray, List.set_cons_zero, List.set_cons_succ]
      refine wpAnyH_take (i := 8) (v := ?v8a) (by simp only [List.getElem?_toArray, List.getElem?_cons_succ, List.getElem?_cons_zero]; rfl) (by kernel_rfl) (by kernel_rfl) (by kernel_rfl) (by exact fun _ _ _ h => h) (Or.inl ⟨by rfl, ?h8a⟩) (by assumption) ?_
      case h8a => (intro W hSw; (try dsimp only at hSw); go_simp; try with_reducible rfl)
      try simp only [Act.put, List.setIfInBounds_toArray, List.set_cons_zero, List.set_cons_succ]
      refine wpAnyH_take (i := 9) (v := ?v9a) (by simp only [List.getElem?_toArray, List.getElem?_cons_succ, List.getElem?_cons_zero]; rfl) (by kernel_rfl) (by kernel_rfl) (by kernel_rfl) (by exact fun _ _ _ h => h) (Or.inl ⟨by rfl, ?h9a⟩) (by assumption) ?_
      case h9a => (intro W hSw; (try dsimp only at hSw); go_simp; try with_reducible rfl)
      try simp only [Act.put, List.setIfInBounds_toArray, List.set_cons_zero, List.set_cons_succ]
      have BX : Hid (Below wr.heap.size wr wr.drew) := Lib.hid (Below.refl _ wr).drew
      refine wpAnyH_ready (rs := [4, 14]) (by kernel_rfl) (by simp) ?_
      refine AllReadyH.cons (by simp only [List.getElem?_toArray, List.getElem?_cons_succ, List.getElem?_cons_zero]; rfl) (fun K hK => ?_) (AllReadyH.cons (by simp only [List.getElem?_toArray, List.getElem?_cons_succ, List.getElem?_cons_zero]; rfl) (fun K hK => ?_) AllReadyH.nil)
      · go_simp
        refine (CR.out _ BX.out).mono ?_
        rintro en w1 ⟨rfl, l1⟩
        have L1 := Lib.hid l1
        clear l1
        refine hK _ _ L1.out.ptr (fun hH4 => ?_)
        clear hK K
        try simp only [Act.put, List.setIfInBounds_toArray, List.set_cons_zero, List.set_cons_succ]
        refine wpAnyH_ready (rs := [10, 14]) (by kernel_rfl) (by simp) ?_
        refine AllReadyH.cons (by simp only [List.getElem?_toArray, List.getElem?_cons_succ, List.getElem?_cons_zero]; rfl) (fun K hK => ?_) (AllReadyH.cons (by simp only [List.getElem?_toArray, List.getElem?_cons_succ, List.getElem?_cons_zero]; rfl) (fun K hK => ?_) AllReadyH.nil)
        · go_simp
          refine (CM.out _ _ L1.out).mono ?_
          rintro en w5 ⟨rfl, b5⟩
          have L2 := Lib.hid (L1.out.belowR' b5)
          clear b5
          refine hK _ _ L2.out.ptr (fun hH10 => ?_)
          clear hK K
          try simp only [Act.put, List.setIfInBounds_toArray, List.set_cons_zero, List.set_cons_succ]
          refine wpAnyH_take (i := 11) (v := ?v11b) (by simp only [List.getElem?_toArray, List.getElem?_cons_succ, List.getElem?_cons_zero]; rfl) (by kernel_rfl) (by kernel_rfl) (by kernel_rfl) (by exact fun _ _ _ h => h) (Or.inl ⟨by rfl, ?h11b⟩) (by assumption) ?_
          case h11b => (intro W hSw; (try dsimp only at hSw); go_simp; try with_reducible rfl)
          try simp only [Act.put, List.setIfInBounds_toArray, List.set_cons_zero, List.set_cons_succ]
          refine wpAnyH_take (i := 12) (v := ?v12b) (by simp only [List.getElem?_toArray, List.getElem?_cons_succ, List.getElem?_cons_zero]; rfl) (by kernel_rfl) (by kernel_rfl) (by kernel_rfl) (by exact fun _ _ _ h => h) (Or.inl ⟨by rfl, ?h12b⟩) (by assumption) ?_
          case h12b => (intro W hSw; (try dsimp only at hSw); go_simp; try with_reducible rfl)
          try simp only [Act.put, List.setIfInBounds_toArray, List.set_cons_zero, List.set_cons_succ]
          refine wpAnyH_take (i := 13) (v := ?v13b) (by simp only [List.getElem?_toArray, List.getElem?_cons_succ, List.getElem?_cons_zero]; rfl) (by kernel_rfl) (by kernel_rfl) (by kernel_rfl) (by exact fun _ _ _ h => h) (Or.inl ⟨by rfl, ?h13b⟩) (by assumption) ?_
          case h13b => (intro W hSw; (try dsimp only at hSw); go_simp; try with_reducible rfl)
          try simp only [Act.put, List.setIfInBounds_toArray, List.set_cons_zero, List.set_cons_succ]
          refine wpAnyH_ready (rs := [14]) (by kernel_rfl) (by simp) ?_
          refine AllReadyH.cons (by simp only [List.getElem?_toArray, List.getElem?_cons_succ, List.getElem?_cons_zero]; rfl) (fun K hK => ?_) AllReadyH.nil
          go_simp
          have LG := Lib.hid (L2.out.gm ⟨0, 0, 0, 0⟩)
          refine hK _ _ LG.out.left.ptr (fun hH14 => ?_)
          clear hK K
          try simp only [Act.put, List.setIfInBounds_toArray, List.set_cons_zero, List.set_cons_succ]
          refine wpAnyH_ready (rs := [15]) (by kernel_rfl) (by simp) ?_
          refine AllReadyH.cons (by simp only [List.getElem?_toArray, List.getElem?_cons_succ, List.getElem?_cons_zero]; rfl) (fun K hK => ?_) AllReadyH.nil
          refine step_storeMw rfl (.tmp 5) (.tmp 22) rfl (w5.heap.size) x rfl rfl _ (LG.out.choose_spec.2.2.2.2.2.1) rfl ?_
          intro w9 hw9
          have lg9 : LeftG Z wr.drew g gd S' n cq 104 q' (w5.heap.size) x w9 := by rw [hw9]; exact LG.out.row (k' := x) GLT.out
          have LG9 := Lib.hid lg9
          refine hK _ _ lg9.left.ptr (fun hH15 => ?_)
          clear hK K lg9 hw9
          try simp only [Act.put, List.setIfInBounds_toArray, List.set_cons_zero, List.set_cons_succ]
          refine wpAnyH_take (i := 16) (v := ?v16b) (by simp only [List.getElem?_toArray, List.getElem?_cons_succ, List.getElem?_cons_zero]; rfl) (by kernel_rfl) (by kernel_rfl) (by kernel_rfl) (by exact fun _ _ _ h => h) (Or.inl ⟨by rfl, ?h16b⟩) (by assumption) ?_
          case h16b => (intro W hSw; (try dsimp only at hSw); go_simp; try with_reducible rfl)
          try simp only [Act.put, List.setIfInBounds_toArray, List.set_cons_zero, List.set_cons_succ]
          refine wpAnyH_done (by kernel_rfl) ?_ _
          have HM9 : Hid (w9.heap[w5.heap.size]? = some (.cells (mkC x) 101 (0, 0))) := Lib.hid (LG9.out.choose_spec.2.2.2.2.2.1)
          have HV9 : Hid (w9.heap[w.heap.size + 1]? = some (.cells (mkC best) 101 (0, 0))) := Lib.hid ((LG9.out.left.blk (show w.heap.size + 1 < wr.drew.heap.size from HSZ.out) G3.out.2.1 (by omega)).trans HV.out)
          have HR9 : Hid (w9.heap[w.heap.size]? = some (.cells (mkC ⟨0, 0, 0, 0⟩) 101 (0, 0))) := Lib.hid ((LG9.out.left.blk (show w.heap.size < wr.drew.heap.size from Nat.lt_of_succ_lt HSZ.out) G3.out.2.2 (by omega)).trans HR.out)
          have kx : w9.cell? ⟨w5.heap.size, 0, none⟩ = some (.int .u64 (x.num : Int)) := cell_of_row w9 _ 0 _ _ (0, 0) HM9.out
          have kb : w9.cell? ⟨w.heap.size + 1, 0, none⟩ = some (.int .u64 (best.num : Int)) := cell_of_row w9 _ 0 _ _ (0, 0) HV9.out
          have NX : Hid (∀ w10, Only (fun k => k = w.heap.size + 1) w9 w10 → w10.heap[w.heap.size + 1]? = some (.cells (mkC (nwM p n (k + 1))) 101 (0, 0)) → w10.heap[w.heap.size]? = some (.cells (mkC ⟨0, 0, 0, 0⟩) 101 (0, 0)) → NwR Z w0 g gd S n cs p w.heap.size (w.heap.size + 1) (k + 1) w10) := Lib.hid (fun w10 o10 v10 r10 => by
            have lgn : LeftG Z wr.drew g gd S' n (cs.setIfInBounds 1 (.int .i64 q.e)) 104 q' (w5.heap.size) x w9 := by rw [HCQ.out]; exact LG9.out
            exact NwR.next HO.out HS'.out lgn HQ'.out HPM1.out (by omega) G3.out.2.1 HSZ.out o10 v10 r10)
          cases b
          · have NE : Hid (nwM p n (k + 1) = best) := Lib.hid (by rw [HN.out, if_neg (by simp)])
            go_wp2_with fail
            go_roundw
            case rel => exact ⟨k + 1, by omega, by go_num, NX.out _ (Only.refl _ _) (by rw [NE.out]; exact HV9.out) HR9.out⟩
            case measure => simp [Go.RowKit.intOf]; omega
          · by_cases hlt2 : best.num < x.num
            · have NE : Hid (nwM p n (k + 1) = x) := Lib.hid (by rw [HN.out, if_pos ⟨rfl, hlt2⟩])
              have hi2 : (best.num : Int) < (x.num : Int) := by omega
              have hd2 : decide ((best.num : Int) < (x.num : Int)) = true := decide_eq_true hi2
              go_wp2_with (first
                | (refine wpList_load_row rfl 101 (.tmp 5) rfl (w5.heap.size) rfl _ (mkC x) (0, 0) _ HM9.out Tryz.underlying101 rfl infoMk ?_)
                | (refine wpList_store_row rfl 101 (.tmp 3) (.tmp 32) rfl (w.heap.size + 1) (mkC x) rfl rfl _ _ HV9.out infoMk (by simp [mkC]) (by simp [mkC, Value.oneCell']) ?_))
              go_roundw
              case rel => exact ⟨k + 1, by omega, by go_num, NX.out _ ((Only.refl _ _).setRow (S := fun k => k = w.heap.size + 1) rfl _) (by rw [NE.out]; exact setRow_heap _ _ _ _ _ _ HV9.out) ((((Only.refl _ w9).setRow (S := fun k => k = w.heap.size + 1) rfl (mkC x)).block w.heap.size (Array.getElem?_eq_some_iff.1 HR9.out).1 (by omega)).trans HR9.out)⟩
              case measure => simp [Go.RowKit.intOf]; omega
            · have NE : Hid (nwM p n (k + 1) = best) := Lib.hid (by rw [HN.out, if_neg (fun hh => hlt2 hh.2)])
              have hi2 : ¬ (best.num : Int) < (x.num : Int) := by omega
              have hd2 : decide ((best.num : Int) < (x.num : Int)) = false := decide_eq_false hi2
              go_wp2_with fail
              go_roundw
              case rel => exact ⟨k + 1, by omega, by go_num, NX.out _ (Only.refl _ _) (by rw [NE.out]; exact HV9.out) HR9.out⟩
              case measure => simp [Go.RowKit.intOf]; omega
        · go_simp
          have LH := Lib.hid (L1.out.gm ⟨0, 0, 0, 0⟩)
          refine hK _ _ LH.out.left.ptr (fun hH14 => ?_)
          clear hK K
          try simp only [Act.put, List.setIfInBounds_toArray, List.set_cons_zero, List.set_cons_succ]
          refine wpAnyH_ready (rs := [10]) (by kernel_rfl) (by simp) ?_
          refine AllReadyH.cons (by simp only [List.getElem?_toArray, List.getElem?_cons_succ, List.getElem?_cons_zero]; rfl) (fun K hK => ?_) AllReadyH.nil
          go_simp
          refine (CM.out _ _ LH.out.left).mono ?_
          rintro en w5 ⟨rfl, b5⟩
          have LG := Lib.hid (LH.out.below b5)
          clear b5
          refine hK _ _ LG.out.left.ptr (fun hH10 => ?_)
          clear hK K
          try simp only [Act.put, List.setIfInBounds_toArray, List.set_cons_zero, List.set_cons_succ]
          refine wpAnyH_take (i := 11) (v := ?v11c) (by simp only [List.getElem?_toArray, List.getElem?_cons_succ, List.getElem?_cons_zero]; rfl) (by kernel_rfl) (by kernel_rfl) (by kernel_rfl) (by exact fun _ _ _ h => h) (Or.inl ⟨by rfl, ?h11c⟩) (by assumption) ?_
          case h11c => (intro W hSw; (try dsimp only at hSw); go_simp; try with_reducible rfl)
          try simp only [Act.put, List.setIfInBounds_toArray, List.set_cons_zero, List.set_cons_succ]
          refine wpAnyH_take (i := 12) (v := ?v12c) (by simp only [List.getElem?_toArray, List.getElem?_cons_succ, List.getElem?_cons_zero]; rfl) (by kernel_rfl) (by kernel_rfl) (by kernel_rfl) (by exact fun _ _ _ h => h) (Or.inl ⟨by rfl, ?h12c⟩) (by assumption) ?_
          case h12c => (intro W hSw; (try dsimp only at hSw); go_simp; try with_reducible rfl)
          try simp only [Act.put, List.setIfInBounds_toArray, List.set_cons_zero, List.set_cons_succ]
          refine wpAnyH_take (i := 13) (v := ?v13c) (by simp only [List.getElem?_toArray, List.getElem?_cons_succ, List.getElem?_cons_zero]; rfl) (by kernel_rfl) (by kernel_rfl) (by kernel_rfl) (by exact fun _ _ _ h => h) (Or.inl ⟨by rfl, ?h13c⟩) (by assumption) ?_
          case h13c => (intro W hSw; (try dsimp only at hSw); go_simp; try with_reducible rfl)
          try simp only [Act.put, List.setIfInBounds_toArray, List.set_cons_zero, List.set_cons_succ]
          refine wpAnyH_ready (rs := [15]) (by kernel_rfl) (by simp) ?_
          refine AllReadyH.cons (by simp only [List.getElem?_toArray, List.getElem?_cons_succ, List.getElem?_cons_zero]; rfl) (fun K hK => ?_) AllReadyH.nil
          refine step_storeMw rfl (.tmp 5) (.tmp 22) rfl (w1.heap.size) x rfl rfl _ (LG.out.choose_spec.2.2.2.2.2.1) rfl ?_
          intro w9 hw9
          have lg9 : LeftG Z wr.drew g gd S' n cq 104 q' (w1.heap.size) x w9 := by rw [hw9]; exact LG.out.row (k' := x) GLT.out
          have LG9 := Lib.hid lg9
          refine hK _ _ lg9.left.ptr (fun hH15 => ?_)
          clear hK K lg9 hw9
          try simp only [Act.put, List.setIfInBounds_toArray, List.set_cons_zero, List.set_cons_succ]
          refine wpAnyH_take (i := 16) (v := ?v16c) (by simp only [List.getElem?_toArray, List.getElem?_cons_succ, List.getElem?_cons_zero]; rfl) (by kernel_rfl) (by kernel_rfl) (by kernel_rfl) (by exact fun _ _ _ h => h) (Or.inl ⟨by rfl, ?h16c⟩) (by assumption) ?_
          case h16c => (intro W hSw; (try dsimp only at hSw); go_simp; try with_reducible rfl)
          try simp only [Act.put, List.setIfInBounds_toArray, List.set_cons_zero, List.set_cons_succ]
          refine wpAnyH_done (by kernel_rfl) ?_ _
          have HM9 : Hid (w9.heap[w1.heap.size]? = some (.cells (mkC x) 101 (0, 0))) := Lib.hid (LG9.out.choose_spec.2.2.2.2.2.1)
          have HV9 : Hid (w9.heap[w.heap.size + 1]? = some (.cells (mkC best) 101 (0, 0))) := Lib.hid ((LG9.out.left.blk (show w.heap.size + 1 < wr.drew.heap.size from HSZ.out) G3.out.2.1 (by omega)).trans HV.out)
          have HR9 : Hid (w9.heap[w.heap.size]? = some (.cells (mkC ⟨0, 0, 0, 0⟩) 101 (0, 0))) := Lib.hid ((LG9.out.left.blk (show w.heap.size < wr.drew.heap.size from Nat.lt_of_succ_lt HSZ.out) G3.out.2.2 (by omega)).trans HR.out)
          have kx : w9.cell? ⟨w1.heap.size, 0, none⟩ = some (.int .u64 (x.num : Int)) := cell_of_row w9 _ 0 _ _ (0, 0) HM9.out
          have kb : w9.cell? ⟨w.heap.size + 1, 0, none⟩ = some (.int .u64 (best.num : Int)) := cell_of_row w9 _ 0 _ _ (0, 0) HV9.out
          have NX : Hid (∀ w10, Only (fun k => k = w.heap.size + 1) w9 w10 → w10.heap[w.heap.size + 1]? = some (.cells (mkC (nwM p n (k + 1))) 101 (0, 0)) → w10.heap[w.heap.size]? = some (.cells (mkC ⟨0, 0, 0, 0⟩) 101 (0, 0)) → NwR Z w0 g gd S n cs p w.heap.size (w.heap.size + 1) (k + 1) w10) := Lib.hid (fun w10 o10 v10 r10 => by
            have lgn : LeftG Z wr.drew g gd S' n (cs.setIfInBounds 1 (.int .i64 q.e)) 104 q' (w1.heap.size) x w9 := by rw [HCQ.out]; exact LG9.out
            exact NwR.next HO.out HS'.out lgn HQ'.out HPM1.out (by omega) G3.out.2.1 HSZ.out o10 v10 r10)
          cases b
          · have NE : Hid (nwM p n (k + 1) = best) := Lib.hid (by rw [HN.out, if_neg (by simp)])
            go_wp2_with fail
            go_roundw
            case rel => exact ⟨k + 1, by omega, by go_num, NX.out _ (Only.refl _ _) (by rw [NE.out]; exact HV9.out) HR9.out⟩
            case measure => simp [Go.RowKit.intOf]; omega
          · by_cases hlt2 : best.num < x.num
            · have NE : Hid (nwM p n (k + 1) = x) := Lib.hid (by rw [HN.out, if_pos ⟨rfl, hlt2⟩])
              have hi2 : (best.num : Int) < (x.num : Int) := by omega
              have hd2 : decide ((best.num : Int) < (x.num : Int)) = true := decide_eq_true hi2
              go_wp2_with (first
                | (refine wpList_load_row rfl 101 (.tmp 5) rfl (w1.heap.size) rfl _ (mkC x) (0, 0) _ HM9.out Tryz.underlying101 rfl infoMk ?_)
                | (refine wpList_store_row rfl 101 (.tmp 3) (.tmp 32) rfl (w.heap.size + 1) (mkC x) rfl rfl _ _ HV9.out infoMk (by simp [mkC]) (by simp [mkC, Value.oneCell']) ?_))
              go_roundw
              case rel => exact ⟨k + 1, by omega, by go_num, NX.out _ ((Only.refl _ _).setRow (S := fun k => k = w.heap.size + 1) rfl _) (by rw [NE.out]; exact setRow_heap _ _ _ _ _ _ HV9.out) ((((Only.refl _ w9).setRow (S := fun k => k = w.heap.size + 1) rfl (mkC x)).block w.heap.size (Array.getElem?_eq_some_iff.1 HR9.out).1 (by omega)).trans HR9.out)⟩
              case measure => simp [Go.RowKit.intOf]; omega
            · have NE : Hid (nwM p n (k + 1) = best) := Lib.hid (by rw [HN.out, if_neg (fun hh => hlt2 hh.2)])
              have hi2 : ¬ (best.num : Int) < (x.num : Int) := by omega
              have hd2 : decide ((best.num : Int) < (x.num : Int)) = false := decide_eq_false hi2
              go_wp2_with fail
              go_roundw
              case rel => exact ⟨k + 1, by omega, by go_num, NX.out _ (Only.refl _ _) (by rw [NE.out]; exact HV9.out) HR9.out⟩
              case measure => simp [Go.RowKit.intOf]; omega
      · go_simp
        have BY : Hid (Below wr.heap.size wr.drew (wr.drew.alloc (.cells #[.int .u64 0, .int .u64 0, .int .u32 0, .int .u32 0] 101))) := Lib.hid ((Below.refl _ wr.drew).alloc (Nat.le_refl _) _)
        have HZ : Hid ((wr.drew.alloc (.cells #[.int .u64 0, .int .u64 0, .int .u32 0, .int .u32 0] 101)).heap[wr.heap.size]? = some (.cells (mkC ⟨0, 0, 0, 0⟩) 101 (0, 0))) := Lib.hid (heap_alloc_new wr.drew _)
        refine hK _ _ (by exact (GD.out.below (BX.out.trans BY.out)).d) (fun hH14 => ?_)
        clear hK K
        try simp only [Act.put, List.setIfInBounds_toArray, List.set_cons_zero, List.set_cons_succ]
        refine wpAnyH_ready (rs := [4]) (by kernel_rfl) (by simp) ?_
        refine AllReadyH.cons (by simp only [List.getElem?_toArray, List.getElem?_cons_succ, List.getElem?_cons_zero]; rfl) (fun K hK => ?_) AllReadyH.nil
        go_simp
        refine (CR.out _ (BX.out.trans BY.out)).mono ?_
        rintro en w1 ⟨rfl, l1⟩
        have LH := Lib.hid (LeftG.read (w := wr.drew) BY.out HZ.out (Nat.le_refl _) HLT'.out GLT.out l1)
        clear l1
        refine hK _ _ LH.out.left.ptr (fun hH4 => ?_)
        clear hK K
        try simp only [Act.put, List.setIfInBounds_toArray, List.set_cons_zero, List.set_cons_succ]
        refine wpAnyH_ready (rs := [10]) (by kernel_rfl) (by simp) ?_
        refine AllReadyH.cons (by simp only [List.getElem?_toArray, List.getElem?_cons_succ, List.getElem?_cons_zero]; rfl) (fun K hK => ?_) AllReadyH.nil
        go_simp
        refine (CM.out _ _ LH.out.left).mono ?_
        rintro en w5 ⟨rfl, b5⟩
        have LG := Lib.hid (LH.out.below b5)
        clear b5
        refine hK _ _ LG.out.left.ptr (fun hH10 => ?_)
        clear hK K
        try simp only [Act.put, List.setIfInBounds_toArray, List.set_cons_zero, List.set_cons_succ]
        refine wpAnyH_take (i := 11) (v := ?v11d) (by simp only [List.getElem?_toArray, List.getElem?_cons_succ, List.getElem?_cons_zero]; rfl) (by kernel_rfl) (by kernel_rfl) (by kernel_rfl) (by exact fun _ _ _ h => h) (Or.inl ⟨by rfl, ?h11d⟩) (by assumption) ?_
        case h11d => (intro W hSw; (try dsimp only at hSw); go_simp; try with_reducible rfl)
        try simp only [Act.put, List.setIfInBounds_toArray, List.set_cons_zero, List.set_cons_succ]
        refine wpAnyH_take (i := 12) (v := ?v12d) (by simp only [List.getElem?_toArray, List.getElem?_cons_succ, List.getElem?_cons_zero]; rfl) (by kernel_rfl) (by kernel_rfl) (by kernel_rfl) (by exact fun _ _ _ h => h) (Or.inl ⟨by rfl, ?h12d⟩) (by assumption) ?_
        case h12d => (intro W hSw; (try dsimp only at hSw); go_simp; try with_reducible rfl)
        try simp only [Act.put, List.setIfInBounds_toArray, List.set_cons_zero, List.set_cons_succ]
        refine wpAnyH_take (i := 13) (v := ?v13d) (by simp only [List.getElem?_toArray, List.getElem?_cons_succ, List.getElem?_cons_zero]; rfl) (by kernel_rfl) (by kernel_rfl) (by kernel_rfl) (by exact fun _ _ _ h => h) (Or.inl ⟨by rfl, ?h13d⟩) (by assumption) ?_
        case h13d => (intro W hSw; (try dsimp only at hSw); go_simp; try with_reducible rfl)
        try simp only [Act.put, List.setIfInBounds_toArray, List.set_cons_zero, List.set_cons_succ]
        refine wpAnyH_ready (rs := [15]) (by kernel_rfl) (by simp) ?_
        refine AllReadyH.cons (by simp only [List.getElem?_toArray, List.getElem?_cons_succ, List.getElem?_cons_zero]; rfl) (fun K hK => ?_) AllReadyH.nil
        refine step_storeMw rfl (.tmp 5) (.tmp 22) rfl (wr.heap.size) x rfl rfl _ (LG.out.choose_spec.2.2.2.2.2.1) rfl ?_
        intro w9 hw9
        have lg9 : LeftG Z wr.drew g gd S' n cq 104 q' (wr.heap.size) x w9 := by rw [hw9]; exact LG.out.row (k' := x) GLT.out
        have LG9 := Lib.hid lg9
        refine hK _ _ lg9.left.ptr (fun hH15 => ?_)
        clear hK K lg9 hw9
        try simp only [Act.put, List.setIfInBounds_toArray, List.set_cons_zero, List.set_cons_succ]
        refine wpAnyH_take (i := 16) (v := ?v16d) (by simp only [List.getElem?_toArray, List.getElem?_cons_succ, List.getElem?_cons_zero]; rfl) (by kernel_rfl) (by kernel_rfl) (by kernel_rfl) (by exact fun _ _ _ h => h) (Or.inl ⟨by rfl, ?h16d⟩) (by assumption) ?_
        case h16d => (intro W hSw; (try dsimp only at hSw); go_simp; try with_reducible rfl)
        try simp only [Act.put, List.setIfInBounds_toArray, List.set_cons_zero, List.set_cons_succ]
        refine wpAnyH_done (by kernel_rfl) ?_ _
        have HM9 : Hid (w9.heap[wr.heap.size]? = some (.cells (mkC x) 101 (0, 0))) := Lib.hid (LG9.out.choose_spec.2.2.2.2.2.1)
        have HV9 : Hid (w9.heap[w.heap.size + 1]? = some (.cells (mkC best) 101 (0, 0))) := Lib.hid ((LG9.out.left.blk (show w.heap.size + 1 < wr.drew.heap.size from HSZ.out) G3.out.2.1 (by omega)).trans HV.out)
        have HR9 : Hid (w9.heap[w.heap.size]? = some (.cells (mkC ⟨0, 0, 0, 0⟩) 101 (0, 0))) := Lib.hid ((LG9.out.left.blk (show w.heap.size < wr.drew.heap.size from Nat.lt_of_succ_lt HSZ.out) G3.out.2.2 (by omega)).trans HR.out)
        have kx : w9.cell? ⟨wr.heap.size, 0, none⟩ = some (.int .u64 (x.num : Int)) := cell_of_row w9 _ 0 _ _ (0, 0) HM9.out
        have kb : w9.cell? ⟨w.heap.size + 1, 0, none⟩ = some (.int .u64 (best.num : Int)) := cell_of_row w9 _ 0 _ _ (0, 0) HV9.out
        have NX : Hid (∀ w10, Only (fun k => k = w.heap.size + 1) w9 w10 → w10.heap[w.heap.size + 1]? = some (.cells (mkC (nwM p n (k + 1))) 101 (0, 0)) → w10.heap[w.heap.size]? = some (.cells (mkC ⟨0, 0, 0, 0⟩) 101 (0, 0)) → NwR Z w0 g gd S n cs p w.heap.size (w.heap.size + 1) (k + 1) w10) := Lib.hid (fun w10 o10 v10 r10 => by
          have lgn : LeftG Z wr.drew g gd S' n (cs.setIfInBounds 1 (.int .i64 q.e)) 104 q' (wr.heap.size) x w9 := by rw [HCQ.out]; exact LG9.out
          exact NwR.next HO.out HS'.out lgn HQ'.out HPM1.out (by omega) G3.out.2.1 HSZ.out o10 v10 r10)
        cases b
        · have NE : Hid (nwM p n (k + 1) = best) := Lib.hid (by rw [HN.out, if_neg (by simp)])
          go_wp2_with fail
          go_roundw
          case rel => exact ⟨k + 1, by omega, by go_num, NX.out _ (Only.refl _ _) (by rw [NE.out]; exact HV9.out) HR9.out⟩
          case measure => simp [Go.RowKit.intOf]; omega
        · by_cases hlt2 : best.num < x.num
          · have NE : Hid (nwM p n (k + 1) = x) := Lib.hid (by rw [HN.out, if_pos ⟨rfl, hlt2⟩])
            have hi2 : (best.num : Int) < (x.num : Int) := by omega
            have hd2 : decide ((best.num : Int) < (x.num : Int)) = true := decide_eq_true hi2
            go_wp2_with (first
              | (refine wpList_load_row rfl 101 (.tmp 5) rfl (wr.heap.size) rfl _ (mkC x) (0, 0) _ HM9.out Tryz.underlying101 rfl infoMk ?_)
              | (refine wpList_store_row rfl 101 (.tmp 3) (.tmp 32) rfl (w.heap.size + 1) (mkC x) rfl rfl _ _ HV9.out infoMk (by simp [mkC]) (by simp [mkC, Value.oneCell']) ?_))
            go_roundw
            case rel => exact ⟨k + 1, by omega, by go_num, NX.out _ ((Only.refl _ _).setRow (S := fun k => k = w.heap.size + 1) rfl _) (by rw [NE.out]; exact setRow_heap _ _ _ _ _ _ HV9.out) ((((Only.refl _ w9).setRow (S := fun k => k = w.heap.size + 1) rfl (mkC x)).block w.heap.size (Array.getElem?_eq_some_iff.1 HR9.out).1 (by omega)).trans HR9.out)⟩
            case measure => simp [Go.RowKit.intOf]; omega
          · have NE : Hid (nwM p n (k + 1) = best) := Lib.hid (by rw [HN.out, if_neg (fun hh => hlt2 hh.2)])
            have hi2 : ¬ (best.num : Int) < (x.num : Int) := by omega
            have hd2 : decide ((best.num : Int) < (x.num : Int)) = false := decide_eq_false hi2
            go_wp2_with fail
            go_roundw
            case rel => exact ⟨k + 1, by omega, by go_num, NX.out _ (Only.refl _ _) (by rw [NE.out]; exact HV9.out) HR9.out⟩
            case measure => simp [Go.RowKit.intOf]; omega
    · obtain rfl : k = 2 := by omega
      obtain ⟨S', d', hs', hb', ho', hv', hr'⟩ := hrel
      have hgr : ¬ S' w.heap.size := fun hh => by
        rcases hs' _ hh with h1 | h1
        · have := HLS.out _ h1; omega
        · have := HL0.out; omega
      rw [HRR.out] at hv'
      rw [HQQ.out] at hb'
      have hm2 : Q2.m = p.m := by rw [← HQQ.out]; exact nwP_m p n 2
      have HE : Hid (LeftP Z w g gd S n cs 104 Q2 (wr.setRow w.heap.size (mkC R))) := Lib.hid (by
        have o1 : Only (fun k => k = w.heap.size) wr (wr.setRow w.heap.size (mkC R)) := (Only.refl _ wr).setRow (S := fun k => k = w.heap.size) rfl _
        refine ⟨S', ?_, fun k hk => (hs' k hk).imp id fun h => Nat.le_trans B0.out.size h, hb'.only o1 (by omega), ?_⟩
        · rw [hm2]
          exact Z.only d' o1 (fun k hk hh => hgr (hh ▸ hk))
        · exact ((Only.of_below B0.out (Nat.le_refl _)).trans' ho' (fun k hk hh => by
            rcases hh with h1 | h1 | h1
            · exact .inl h1
            · exact .inr h1
            · omega)).trans' o1 (fun k hk hh => by omega))
      have HV := Lib.hid hv'
      have HR := Lib.hid hr'
      clear d' hs' hb' ho' hv' hr' hgr hm2
      go_wp2_with (first
        | (refine wpList_load_row rfl 101 (.tmp 3) rfl (w.heap.size + 1) rfl _ (mkC R) (0, 0) _ HV.out Tryz.underlying101 rfl infoMk ?_)
        | (refine wpList_store_row rfl 101 (.tmp 2) (.tmp 34) rfl w.heap.size (mkC R) rfl rfl _ _ HR.out infoMk (by simp [mkC]) (by simp [mkC, Value.oneCell']) ?_))
      refine bodyPost_ret (v := .agg (mkC R)) (res_mk (p := 2) rfl _ rfl (setRow_heap _ _ _ _ _ _ HR.out)) (by rfl) ?_
      exact ⟨rfl, HE.out⟩
end
end Go.Proofs.YtadagbkfemcgfaaGreat
