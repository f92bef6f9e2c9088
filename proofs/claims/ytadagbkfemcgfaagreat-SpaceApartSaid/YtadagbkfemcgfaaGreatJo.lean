/-
  Own work. The journal in memory; its small functions.
-/
import Derived.Test.YtadagbkfemcgfaaGreatJa
import Derived.Test.YtadagbkfemcgfaaGreatG4
namespace Go.Proofs.YtadagbkfemcgfaaGreat
open Go.RowKit Go.Maps
set_option linter.unusedVariables false
set_option linter.unusedSimpArgs false

theorem Only.trans' {S T : Nat → Prop} {w w' w'' : World} (h : Only S w w') (h' : Only T w' w'') (hs : ∀ k, k < w.heap.size → T k → S k) : Only S w w'' :=
  ⟨h'.os.trans h.os, h'.tape.trans h.tape, h'.output.trans h.output, Nat.le_trans h.size h'.size, fun k hk hS => (h'.block k (Nat.lt_of_lt_of_le hk h.size) (fun hT => hS (hs k hk hT))).trans (h.block k hk hS)⟩

theorem Pt.wr_ok {p : Pt} {n : Nat} (ok : p.m.Ok n) (hw : p.m.wrote < 1073741824) (i : Int) (s : List UInt8) : (p.wr n i s).m.Ok n := by
  unfold Pt.wr
  split
  · exact ok.write i (strB s) hw
  · exact ok
theorem Pt.fl_ok {p : Pt} {n : Nat} (ok : p.m.Ok n) : (p.fl n).m.Ok n := by
  unfold Pt.fl
  split
  · exact ok.flush
  · exact ok
theorem Pt.wr_wrote (p : Pt) (n : Nat) (i : Int) (s : List UInt8) : (p.wr n i s).m.wrote ≤ p.m.wrote + 1 := by
  unfold Pt.wr
  split
  · exact (p.m.writeM_cnt n i (strB s)).1
  · exact Nat.le_succ _
theorem Pt.fl_wrote (p : Pt) (n : Nat) : (p.fl n).m.wrote = p.m.wrote := by
  unfold Pt.fl
  split
  · exact (p.m.flushM_cnt n).1
  · rfl
theorem Pt.wr_powers (p : Pt) (n : Nat) (i : Int) (s : List UInt8) : (p.wr n i s).m.powers = p.m.powers := by
  unfold Pt.wr
  split
  · exact (p.m.writeM_cnt n i (strB s)).2
  · rfl
theorem Pt.fl_powers (p : Pt) (n : Nat) : (p.fl n).m.powers = p.m.powers := by
  unfold Pt.fl
  split
  · exact (p.m.flushM_cnt n).2
  · rfl
section
variable {Z : DK} {w w' : World} {g gd n : Nat} {S T : Nat → Prop} {e : Int} {cs : Array Value} {t : TypeId} {m : RM}
theorem set1_twice (cs : Array Value) (u v : Value) : (cs.setIfInBounds 1 u).setIfInBounds 1 v = cs.setIfInBounds 1 v := by simp
/-- The port's functions one behind the other. -/
theorem LeftP.trans {w1 w2 : World} {S' : Nat → Prop} {x : Int} {q : Pt} (hs : ∀ k, S' k → S k ∨ w.heap.size ≤ k) (ho : Only (fun k => S k ∨ k = g) w w1)
    (l : LeftP Z w1 g gd S' n (cs.setIfInBounds 1 (.int .i64 x)) t q w2) : LeftP Z w g gd S n cs t q w2 := by
  obtain ⟨S2, d2, hs2, b2, ho2⟩ := l
  refine ⟨S2, d2, fun k hk => ?_, ?_, ?_⟩
  · rcases hs2 k hk with h1 | h1
    · exact hs k h1
    · exact .inr (Nat.le_trans ho.size h1)
  · rw [set1_twice] at b2
    exact b2
  · refine ho.trans' ho2 (fun k hk hT => ?_)
    rcases hT with h1 | h1
    · rcases hs k h1 with h2 | h2
      · exact .inl h2
      · omega
    · exact .inr h1
theorem LeftP.nog {w1 : World} {p : Pt} (hlt : g < w.heap.size) (hg : ¬ S g) (l : LeftP Z w g gd S n cs t p w1) : ∃ S', Z.D w1 gd S' n p.m ∧ ¬ S' g ∧ PoB w1 g gd p.e (cs.setIfInBounds 1 (.int .i64 p.e)) t ∧ (∀ k, S' k → S k ∨ w.heap.size ≤ k) ∧ Only (fun k => S k ∨ k = g) w w1 := by
  obtain ⟨S', d', hs, b', ho⟩ := l
  refine ⟨S', d', fun hh => ?_, b', hs, ho⟩
  rcases hs g hh with h1 | h1
  · exact hg h1
  · omega
theorem LeftP.blk {w1 : World} {q : Pt} {k : Nat} (l : LeftP Z w g gd S n cs t q w1) (hk : k < w.heap.size) (h1 : ¬ S k) (h2 : k ≠ g) : w1.heap[k]? = w.heap[k]? := by
  obtain ⟨_, _, _, _, ho⟩ := l
  exact ho.block k hk (fun hh => hh.elim h1 h2)
theorem load_u64 {W : World} {ad : Addr} {v : Int} (h : W.cell? ad = some (.int .u64 v)) : (loadVar 61 ad).run Tryz.prog W = .ok (.int .u64 v) W := by
  simp [loadVar, isAgg, run_underlying Tryz.underlying61, go_sem, h]
/-- The four cells of a mark. -/
def Mk4 (W : World) (g o : Nat) (k : Mk) : Prop := W.cell? ⟨g, o, none⟩ = some (.int .u64 (k.num : Int)) ∧ W.cell? ⟨g, o + 1, none⟩ = some (.int .u64 (k.turn : Int)) ∧ W.cell? ⟨g, o + 2, none⟩ = some (.int .u32 (k.pos : Int)) ∧ W.cell? ⟨g, o + 3, none⟩ = some (.int .u32 (k.ring : Int))
theorem mk4 {W : World} {g : Nat} {k : Mk} (h : W.heap[g]? = some (.cells (mkC k) 101 (0, 0))) : Mk4 W g 0 k := ⟨cell_of_row W _ 0 _ _ (0, 0) h, cell_of_row W _ 1 _ _ (0, 0) h, cell_of_row W _ 2 _ _ (0, 0) h, cell_of_row W _ 3 _ _ (0, 0) h⟩
set_option maxRecDepth 100000 in
set_option maxHeartbeats 1000000 in
theorem poan_any (p : Pt) (k : Mk) (d : Z.D w gd S n p.m) (ok : p.m.Ok n) (hw : p.m.wrote < 1073741824) (hk : k.Fit) (h : PoB w g gd p.e cs t) (hg : ¬ S g) :
    Calls Tryz.prog 51 #[.pointer (some ⟨g, 0, none⟩), .agg (mkC k)] w (RetPo Z w g gd S n cs t (p.anchor n k)) := by
  obtain ⟨s, t', po, r⟩ := k
  have hs64 : s < 18446744073709551616 := hk.n
  obtain ⟨w0, hw0⟩ : ∃ w0, w.alloc (.cells #[.int .u64 (s : Int), .int .u64 (t' : Int), .int .u32 (po : Int), .int .u32 (r : Int)] 101) = w0 := ⟨_, rfl⟩
  have hb : Below w.heap.size w w0 := by rw [← hw0]; exact (Below.refl _ _).alloc (Nat.le_refl _) _
  have h1 : w0.heap[w.heap.size]? = some (.cells (mkC ⟨s, t', po, r⟩) 101 (0, 0)) := by rw [← hw0]; exact heap_alloc_new w _
  have hlt0 : w.heap.size < w0.heap.size := (Array.getElem?_eq_some_iff.1 h1).1
  have hglt := h.lt
  have M0 := Lib.hid (mk4 h1)
  have CA := Lib.hid (anchor_any ⟨s, t', po, r⟩ w0.drew hk)
  have hal := anc_len s t' po r
  have ean : (Mk.mk s t' po r).anc = anc s t' po r := rfl
  obtain ⟨A, hA⟩ : ∃ A, anc s t' po r = A := ⟨_, rfl⟩
  rw [ean, hA] at CA
  rw [hA] at hal
  obtain ⟨i, hi⟩ : ∃ i : Nat, s % 2 = i := ⟨_, rfl⟩
  have hi2 : i < 2 := by omega
  have hi3 : (s : Int) % 2 = (i : Int) := by omega
  have hi4 : (s : Int).tmod 2 = (i : Int) := by rw [Int.tmod_eq_emod_of_nonneg (by omega)]; exact hi3
  have eP : p.anchor n ⟨s, t', po, r⟩ = (p.wr n (i : Int) A).fl n := by
    show (p.wr n ((s % 2 : Nat) : Int) (Mk.mk s t' po r).anc).fl n = _
    rw [ean, hA, hi]
  rw [eP]
  have CW : Hid (∀ W, Below w.heap.size w W → Calls Tryz.prog 50 #[.pointer (some ⟨g, 0, none⟩), .int .i64 (i : Int), .agg (cellsB A).toArray] W (RetPo Z W g gd S n cs t (p.wr n (i : Int) A))) := Lib.hid (fun W hW => powr_any p i A (Z.only d (Only.of_below (S := fun _ => False) hW (Nat.le_refl _)) (fun _ _ h => h)) ok hw (by omega) hal (h.below hW) hg)
  have CFl : Hid (∀ W W', Below w.heap.size w W → LeftP Z W g gd S n cs t (p.wr n (i : Int) A) W' → Calls Tryz.prog 49 #[.pointer (some ⟨g, 0, none⟩)] W' (fun e w' => e = .returned (.tuple #[]) ∧ LeftP Z w g gd S n cs t ((p.wr n (i : Int) A).fl n) w')) := Lib.hid (fun W W' hW l => by
    have hltW : g < W.heap.size := Nat.lt_of_lt_of_le hglt hW.size
    obtain ⟨S', d', hg', b', hs', ho'⟩ := l.nog hltW hg
    refine (pofl_any _ d' (Pt.wr_ok ok hw _ _) b' hg').mono ?_
    rintro e w' ⟨he, l2⟩
    exact ⟨he, LeftP.from hW (LeftP.trans hs' ho' l2)⟩)
  obtain ⟨q, hq⟩ : ∃ q, p.wr n (i : Int) A = q := ⟨_, rfl⟩
  obtain ⟨q2, hq2⟩ : ∃ q2, q.fl n = q2 := ⟨_, rfl⟩
  rw [hq, hq2]
  rw [hq] at CW CFl
  rw [hq2] at CFl
  have B0 := Lib.hid hb
  have W0 := Lib.hid hw0
  have H1 := Lib.hid h1
  have SL : Hid (∀ k, S k → k < w.heap.size) := Lib.hid (fun k hk => Z.lt d k hk)
  clear hq hq2 eP hb hw0 h1 hal hA ean h d ok hw hk
  have hii : IntKind.i64.wrap (i : Int) = (i : Int) := by rw [IntKind.wrap_i64]; omega
  go_enter Tryz.func51, Tryz.ntmps51
  go_upto_region 1 with fail
  unfold mkC
  go_wp2_with fail
  rw [W0.out]
  refine wp_region_held_drew (S := fun W => W.heap[w.heap.size]? = some (.cells (mkC ⟨s, t', po, r⟩) 101 (0, 0))) (by kernel_rfl) H1.out (fun hHeld => ?_)
  refine wpAnyH_take (i := 0) (v := ?v0) (by simp only [List.getElem?_toArray, List.getElem?_cons_succ, List.getElem?_cons_zero]; rfl) (by kernel_rfl) (by kernel_rfl) (by kernel_rfl) (by exact fun _ _ _ h => h) (Or.inl ⟨by rfl, ?h0⟩) (by assumption) ?_
  case h0 => (intro W hSw; (try dsimp only at hSw); go_simp; try with_reducible rfl)
  try simp only [Act.put, List.setIfInBounds_toArray, List.set_cons_zero, List.set_cons_succ]
  refine wpAnyH_take (i := 1) (v := ?v1) (by simp only [List.getElem?_toArray, List.getElem?_cons_succ, List.getElem?_cons_zero]; rfl) (by kernel_rfl) (by kernel_rfl) (by kernel_rfl) (by exact fun _ _ _ h => h) (Or.inl ⟨by rfl, ?h1⟩) (by assumption) ?_
  case h1 => (intro W hSw; (try dsimp only at hSw); go_simp; try with_reducible rfl)
  try simp only [Act.put, List.setIfInBounds_toArray, List.set_cons_zero, List.set_cons_succ]
  refine wpAnyH_take (i := 2) (by simp only [List.getElem?_toArray, List.getElem?_cons_succ, List.getElem?_cons_zero]; rfl) (by kernel_rfl) (by kernel_rfl) (by kernel_rfl) (by exact fun _ _ _ h => h) (yieldsIf_loadG (by rfl) 61 (.tmp 5) rfl ⟨w.heap.size, 0, none⟩ rfl _ (fun W hW => load_u64 (cell_of_row W _ 0 _ _ (0, 0) hW))) (by assumption) ?_
  try simp only [Act.put, List.setIfInBounds_toArray, List.set_cons_zero, List.set_cons_succ]
  refine wpAnyH_take (i := 3) (v := ?v3) (by simp only [List.getElem?_toArray, List.getElem?_cons_succ, List.getElem?_cons_zero]; rfl) (by kernel_rfl) (by kernel_rfl) (by kernel_rfl) (by exact fun _ _ _ h => h) (Or.inl ⟨by rfl, ?h3⟩) (by assumption) ?_
  case h3 => (intro W hSw; (try dsimp only at hSw); go_simp; try with_reducible rfl)
  try simp only [Act.put, List.setIfInBounds_toArray, List.set_cons_zero, List.set_cons_succ]
  refine wpAnyH_take (i := 4) (v := ?v4) (by simp only [List.getElem?_toArray, List.getElem?_cons_succ, List.getElem?_cons_zero]; rfl) (by kernel_rfl) (by kernel_rfl) (by kernel_rfl) (by exact fun _ _ _ h => h) (Or.inl ⟨by rfl, ?h4⟩) (by assumption) ?_
  case h4 => (intro W hSw; (try dsimp only at hSw); go_simp; try with_reducible rfl)
  try simp only [Act.put, List.setIfInBounds_toArray, List.set_cons_zero, List.set_cons_succ]
  refine wpAnyH_take (i := 5) (by simp only [List.getElem?_toArray, List.getElem?_cons_succ, List.getElem?_cons_zero]; rfl) (by kernel_rfl) (by kernel_rfl) (by kernel_rfl) (by exact fun _ _ _ h => h) (yieldsIf_loadG (by rfl) 101 (.tmp 3) rfl ⟨w.heap.size, 0, none⟩ rfl _ (fun W hW => load_mk hW)) (by assumption) ?_
  try simp only [Act.put, List.setIfInBounds_toArray, List.set_cons_zero, List.set_cons_succ]
  refine wpAnyH_ready (rs := [6]) (by kernel_rfl) (by simp) ?_
  refine AllReadyH.cons (by simp only [List.getElem?_toArray, List.getElem?_cons_succ, List.getElem?_cons_zero]; rfl) (fun K hK => ?_) AllReadyH.nil
  go_simp
  refine CA.out.mono ?_
  rintro e w6 ⟨rfl, b6⟩
  have hS6 := (b6.block _ hlt0).trans H1.out
  have H6 := Lib.hid hS6
  have HL6 : Hid (w.heap.size < w6.heap.size) := Lib.hid (Array.getElem?_eq_some_iff.1 hS6).1
  have B6 := Lib.hid (B0.out.drew.trans (b6.mono B0.out.size))
  clear b6
  refine hK _ _ hS6 (fun hH6 => ?_)
  clear hK K
  try simp only [Act.put, List.setIfInBounds_toArray, List.set_cons_zero, List.set_cons_succ]
  refine wpAnyH_ready (rs := [7]) (by kernel_rfl) (by simp) ?_
  refine AllReadyH.cons (by simp only [List.getElem?_toArray, List.getElem?_cons_succ, List.getElem?_cons_zero]; rfl) (fun K hK => ?_) AllReadyH.nil
  go_simp
  refine (CW.out _ B6.out).mono ?_
  rintro e w7 ⟨rfl, l7⟩
  have L7 := Lib.hid l7
  have hS7 := (l7.blk HL6.out (fun hh => by have := SL.out _ hh; omega) (by omega)).trans H6.out
  clear l7
  refine hK _ _ hS7 (fun hH7 => ?_)
  clear hK K
  try simp only [Act.put, List.setIfInBounds_toArray, List.set_cons_zero, List.set_cons_succ]
  refine wpAnyH_done (by kernel_rfl) ?_ _
  go_wp2_with (go_at_call 49; refine (CFl.out _ _ B6.out L7.out).mono ?_; rintro e w8 ⟨rfl, l8⟩)
  go_end0
  exact ⟨rfl, l8⟩
end
end Go.Proofs.YtadagbkfemcgfaaGreat
