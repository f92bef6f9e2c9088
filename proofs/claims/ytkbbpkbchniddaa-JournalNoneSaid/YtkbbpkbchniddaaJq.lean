/-
  Own work. The journal's port: read, write, flush, over a disk by its contracts.
-/
import Derived.Test.YtkbbpkbchniddaaJs
namespace Go.Proofs.Ytkbbpkbchniddaa
open Go.RowKit
set_option linter.unusedVariables false
set_option linter.unusedSimpArgs false

theorem RetV.bel {w : World} {v : Value} {f : FuncId} {args : Array Value} (h : Calls Try.prog f args w (RetW w v)) : Calls Try.prog f args w fun e w' => e = .returned v ∧ Below w.heap.size w w' :=
  h.mono fun e w' ⟨h1, h2⟩ => ⟨h1, h2 ▸ Below.refl _ _⟩
theorem cell_far {W : World} {g i j : Nat} {v : Value} (h : W.cell? ⟨g, i, none⟩ = some v) (u : Value) (hij : i ≠ j) : (W.setCell ⟨g, j, none⟩ u).cell? ⟨g, i, none⟩ = some v := by
  rw [World.cell?_setCell_other _ _ _ _ (by intro e; injection e; omega)]
  exact h
theorem lst_len' (s : ByteArray) : (lst s).length = s.size := rfl
theorem RM.Ok.lsz' {m : RM} {n i : Nat} (ok : m.Ok n) (hi : i < n) : (m.last.getD i ⟨#[]⟩).size = 512 := by
  have hlt : i < m.last.length := by rw [ok.nl]; exact hi
  rw [List.getD_eq_getElem?_getD, List.getElem?_eq_getElem hlt]
  exact ok.ls _ (List.getElem_mem hlt)
theorem RM.Ok.wsz' {m : RM} {n i : Nat} (ok : m.Ok n) (hi : i < n) : (m.wait.getD i ⟨#[]⟩).size = 0 ∨ (m.wait.getD i ⟨#[]⟩).size = 512 := by
  have hlt : i < m.wait.length := by rw [ok.nw]; exact hi
  rw [List.getD_eq_getElem?_getD, List.getElem?_eq_getElem hlt]
  exact ok.ws _ (List.getElem_mem hlt)
theorem Bw.keepO {W W' : World} {S : Nat → Prop} {k : Nat} {t : TypeId} {l : List UInt8} (h : Bw W k t l) (ho : Only S W W') (hk : ¬ S k) : Bw W' k t l := (ho.block k h.lt hk).trans h
/-- A block that begins with a port: the disk's place, the error. -/
structure PoB (w : World) (g gd : Nat) (e : Int) (cs : Array Value) (t : TypeId) : Prop where
  blk : w.heap[g]? = some (.cells cs t (0, 0))
  c0 : cs[0]? = some (.pointer (some ⟨gd, 0, none⟩))
  c1 : cs[1]? = some (.int .i64 e)
section
variable {Z : DK} {w w' : World} {g gd n : Nat} {S T : Nat → Prop} {e : Int} {cs : Array Value} {t : TypeId} {m : RM}
theorem PoB.lt (h : PoB w g gd e cs t) : g < w.heap.size := (Array.getElem?_eq_some_iff.1 h.blk).1
theorem PoB.only (h : PoB w g gd e cs t) (ho : Only T w w') (hg : ¬ T g) : PoB w' g gd e cs t := ⟨(ho.block g h.lt hg).trans h.blk, h.c0, h.c1⟩
theorem PoB.below (h : PoB w g gd e cs t) (hb : Below w.heap.size w w') : PoB w' g gd e cs t := h.only (Only.of_below (S := fun _ => False) hb (Nat.le_refl _)) (fun h => h)
theorem PoB.drew (h : PoB w g gd e cs t) : PoB w.drew g gd e cs t := ⟨h.blk, h.c0, h.c1⟩
theorem PoB.d (h : PoB w g gd e cs t) : w.cell? ⟨g, 0, none⟩ = some (.pointer (some ⟨gd, 0, none⟩)) := (cell_of_row w g 0 _ _ (0, 0) h.blk).trans h.c0
theorem PoB.er (h : PoB w g gd e cs t) : w.cell? ⟨g, 1, none⟩ = some (.int .i64 e) := (cell_of_row w g 1 _ _ (0, 0) h.blk).trans h.c1
theorem PoB.fr (h : PoB w g gd e cs t) (k : Nat) : w.frozen? ⟨g, k, none⟩ = false := frozen_of_row w g k _ _ h.blk
theorem PoB.put (h : PoB w g gd e cs t) (e' : Int) : PoB (w.setCell ⟨g, 1, none⟩ (.int .i64 e')) g gd e' (cs.setIfInBounds 1 (.int .i64 e')) t := by
  have h1 := h.c1
  have hs : 1 < cs.size := (Array.getElem?_eq_some_iff.1 h1).1
  refine ⟨heap_setCell_same w g 1 _ _ _ h.blk, ?_, ?_⟩
  · rw [Array.getElem?_setIfInBounds_ne (by omega)]
    exact h.c0
  · rw [Array.getElem?_setIfInBounds_self_of_lt hs]
theorem PoB.same (h : PoB w g gd e cs t) : cs.setIfInBounds 1 (.int .i64 e) = cs := by
  have h1 := h.c1
  obtain ⟨hs, h2⟩ := Array.getElem?_eq_some_iff.1 h1
  apply Array.ext
  · simp
  · intro i hi1 hi2
    rw [Array.getElem_setIfInBounds]
    split
    · rename_i hh
      subst hh
      exact h2.symm
    · rfl
/-- What a port's function leaves: the disk and the error as p says, the rest as it was. -/
def LeftP (Z : DK) (w : World) (g gd : Nat) (S : Nat → Prop) (n : Nat) (cs : Array Value) (t : TypeId) (p : Pt) (w' : World) : Prop :=
  ∃ S', Z.D w' gd S' n p.m ∧ (∀ k, S' k → S k ∨ w.heap.size ≤ k) ∧ PoB w' g gd p.e (cs.setIfInBounds 1 (.int .i64 p.e)) t ∧ Only (fun k => S k ∨ k = g) w w'
def RetPo (Z : DK) (w : World) (g gd : Nat) (S : Nat → Prop) (n : Nat) (cs : Array Value) (t : TypeId) (p : Pt) (e : Ending) (w' : World) : Prop :=
  e = .returned (.tuple #[]) ∧ LeftP Z w g gd S n cs t p w'
theorem LeftP.same (d : Z.D w gd S n m) (h : PoB w g gd e cs t) : LeftP Z w g gd S n cs t ⟨m, e⟩ w :=
  ⟨S, d, fun _ hk => .inl hk, by rw [h.same]; exact h, Only.refl _ _⟩
theorem LeftP.below (hb : Below w.heap.size w w') (h : PoB w g gd e cs t) (d : Z.D w gd S n m) : LeftP Z w g gd S n cs t ⟨m, e⟩ w' :=
  ⟨S, Z.only d (Only.of_below (S := fun _ => False) hb (Nat.le_refl _)) (fun _ _ h => h), fun _ hk => .inl hk, by rw [h.same]; exact h.below hb, Only.of_below hb (Nat.le_refl _)⟩
/-- The disk's own step, and its error kept. -/
theorem LeftP.step {w1 : World} {m1 : RM} {e1 : Int} {v : Value} {en : Ending} (h : PoB w g gd e cs t) (hg : ¬ S g) (l : Left2 Z.D w gd S n v m1 en w1) : LeftP Z w g gd S n cs t ⟨m1, e1⟩ (w1.setCell ⟨g, 1, none⟩ (.int .i64 e1)) := by
  obtain ⟨_, ⟨S', d', hs⟩, ho⟩ := l
  have hg' : ¬ S' g := fun hh => by
    rcases hs g hh with h1 | h1
    · exact hg h1
    · have := h.lt; omega
  refine ⟨S', ?_, hs, (h.only ho hg).put e1, ?_⟩
  · exact Z.only d' ((Only.refl (fun k => k = g) w1).setCell (p := ⟨g, 1, none⟩) rfl _) (fun k hk e => hg' (e ▸ hk))
  · exact (ho.mono (fun k _ hk => .inl hk)).setCell (.inr rfl) _
theorem Left2.below {D : World → Nat → (Nat → Prop) → Nat → RM → Prop} {w0 w w' : World} {v : Value} {en : Ending} (hb : Below w0.heap.size w0 w) (l : Left2 D w g S n v m en w') : Left2 D w0 g S n v m en w' := by
  obtain ⟨h1, ⟨S', d', hs⟩, ho⟩ := l
  refine ⟨h1, ⟨S', d', fun k hk => (hs k hk).imp id fun h => Nat.le_trans hb.size h⟩, (Only.of_below hb (Nat.le_refl _)).trans ho⟩

theorem Only.belowT {w2 : World} (h : Only T w w2) (hb : Below w.heap.size w2 w') : Only T w w' :=
  ⟨hb.os.trans h.os, hb.tape.trans h.tape, hb.output.trans h.output, Nat.le_trans h.size hb.size, fun k hk hT => (hb.block k hk).trans (h.block k hk hT)⟩
/-- What is handed back is read on behind a store into an elder block. -/
theorem OwnX.hasOff {w0 w1 : World} {A : Option Addr} {n c k : Nat} {l : List UInt8} {u : Value} (h : OwnX w1 w0.heap.size (.slice A n c) l) (hb : Below w0.heap.size w0 w1) (hg : g < w0.heap.size) : HasB (w1.setCell ⟨g, k, none⟩ u) w1.heap.size A n l := by
  have h1 := h.has
  refine ⟨h1.1, fun hn => ?_⟩
  obtain ⟨b, e, hb2, hlt, hc⟩ := h.head hn
  obtain ⟨b', o', e', _, hc'⟩ := h1.2 hn
  refine ⟨b', o', e', by rw [e] at e'; simp only [Option.some.injEq, Addr.mk.injEq, and_true] at e'; omega, fun i x hx => ?_⟩
  rw [World.cell?_setCell_other _ _ _ _ (by rw [e] at e'; simp only [Option.some.injEq, Addr.mk.injEq, and_true] at e'; intro q; injection q; omega)]
  exact hc' i x hx
set_option maxRecDepth 100000 in
theorem pofl_any (p : Pt) (d : Z.D w gd S n p.m) (ok : p.m.Ok n) (h : PoB w g gd p.e cs t) (hg : ¬ S g) :
    Calls Try.prog 48 #[.pointer (some ⟨g, 0, none⟩)] w (RetPo Z w g gd S n cs t (p.fl n)) := by
  obtain ⟨m, e⟩ := p
  have c0 := h.d
  have c1 := h.er
  have f1 := h.fr 1
  unfold Pt.fl
  by_cases he : e = 0
  · rw [if_pos he]
    subst he
    have C := Lib.hid (Z.flush_any d ok)
    have H := Lib.hid h
    have G := Lib.hid hg
    obtain ⟨z, hz⟩ : ∃ z, m.flushE = z := ⟨_, rfl⟩
    obtain ⟨m', hm'⟩ : ∃ m', m.flushM n = m' := ⟨_, rfl⟩
    rw [hz, hm'] at C
    rw [hz, hm']
    clear h hg d ok hz hm'
    go_enter Try.func48, Try.ntmps48
    go_wp2_with (go_at_call 71; refine C.out.mono ?_; rintro e w1 l1
                 have L1 := Lib.hid l1
                 have f9 := (H.out.only l1.2.2 G.out).fr 1
                 have c9 := (H.out.only l1.2.2 G.out).er
                 obtain ⟨rfl, _, _⟩ := l1)
    go_end0
    exact ⟨rfl, LeftP.step H.out G.out L1.out⟩
  · rw [if_neg he]
    have H := Lib.hid (LeftP.same d h)
    have he' : (e == 0) = false := by rw [beq_eq_false_iff_ne]; exact he
    clear h hg d ok
    go_enter Try.func48, Try.ntmps48
    go_wp2_with fail
    go_end0
    exact ⟨rfl, H.out⟩
theorem LeftP.from {w0 w1 : World} {p : Pt} (hb : Below w.heap.size w w0) (l : LeftP Z w0 g gd S n cs t p w1) : LeftP Z w g gd S n cs t p w1 := by
  obtain ⟨S', d', hs, h1, ho⟩ := l
  exact ⟨S', d', fun k hk => (hs k hk).imp id fun h => Nat.le_trans hb.size h, h1, (Only.of_below hb (Nat.le_refl _)).trans ho⟩
set_option maxRecDepth 100000 in
theorem powr_any (p : Pt) (i : Int) (s : List UInt8) (d : Z.D w gd S n p.m) (ok : p.m.Ok n) (hw : p.m.wrote < 1073741824) (hi : -9223372036854775808 ≤ i ∧ i ≤ 9223372036854775807) (hs : s.length = 512) (h : PoB w g gd p.e cs t) (hg : ¬ S g) :
    Calls Try.prog 49 #[.pointer (some ⟨g, 0, none⟩), .int .i64 i, .agg (cellsB s).toArray] w (RetPo Z w g gd S n cs t (p.wr n i s)) := by
  obtain ⟨m, e⟩ := p
  obtain ⟨w0, hw0⟩ : ∃ w0, w.alloc (.cells (cellsB s).toArray 97) = w0 := ⟨_, rfl⟩
  have hb : Below w.heap.size w w0 := by rw [← hw0]; exact (Below.refl _ _).alloc (Nat.le_refl _) _
  have hB : HasB w0 w0.heap.size (some ⟨w.heap.size, 0, none⟩) 512 s := by rw [← hw0, ← hs]; exact HasB.row w s _
  have hN : HasN w0 S (some ⟨w.heap.size, 0, none⟩) 512 s := by
    refine ⟨hB.1, fun hn => ?_⟩
    obtain ⟨gb, o, e, hg', hc⟩ := hB.2 hn
    simp only [Option.some.injEq, Addr.mk.injEq, and_true] at e
    obtain ⟨rfl, rfl⟩ := e
    exact ⟨w.heap.size, 0, rfl, hg', fun hk => by have := Z.lt d _ hk; omega, hc⟩
  have d0 : Z.D w0 gd S n m := Z.only d (Only.of_below (S := fun _ => False) hb (Nat.le_refl _)) (fun _ _ h => h)
  have h0 := h.below hb
  have c0 := h0.d
  have c1 := h0.er
  have f1 := h0.fr 1
  unfold Pt.wr
  obtain ⟨i1, i2⟩ := hi
  by_cases he : e = 0
  · rw [if_pos he]
    subst he
    have C := Lib.hid (Z.write_any i _ 512 512 s (Z.only d0 (Only.refl (fun _ => False) w0).drew (fun _ _ h => h)) ok hw ⟨i1, i2⟩ ⟨hN.1, hN.2⟩ (Nat.le_refl _) (by omega))
    have H := Lib.hid h0
    have G := Lib.hid hg
    have B := Lib.hid hb
    obtain ⟨z, hz⟩ : ∃ z, m.writeE n i (strB s) = z := ⟨_, rfl⟩
    obtain ⟨m', hm'⟩ : ∃ m', m.writeM n i (strB s) = m' := ⟨_, rfl⟩
    rw [hz, hm'] at C
    rw [hz, hm']
    have W0 := Lib.hid hw0
    clear h hg d ok hz hm' hB hN d0 h0 hb hw0
    go_enter Try.func49, Try.ntmps49
    go_upto_region 1 with fail
    rw [W0.out]
    go_wp2_with fail
    go_region_held3 (fun W => W.cell? ⟨g, 0, none⟩ = some (.pointer (some ⟨gd, 0, none⟩)))
      (first | exact c0 | exact c8 | assumption | exact cell_far c8 _ (by omega))
      (first
        | (go_at_call 72; refine C.out.mono ?_; rintro e w1 l1
           have L1 := Lib.hid l1
           have q := H.out.drew.only l1.2.2 G.out
           have f9 := q.fr 1
           have c9 := q.er
           have c8 := q.d
           clear q
           obtain ⟨rfl, _, _⟩ := l1))
    go_end0
    exact ⟨rfl, LeftP.from B.out.drew (LeftP.step H.out.drew G.out L1.out)⟩
  · rw [if_neg he]
    have H := Lib.hid (LeftP.below hb h d)
    have he' : (e == 0) = false := by rw [beq_eq_false_iff_ne]; exact he
    have W0 := Lib.hid hw0
    clear h hg d ok hB hN d0 h0 hb hw0
    go_enter Try.func49, Try.ntmps49
    go_upto_region 1 with fail
    rw [W0.out]
    go_wp2_with fail
    go_end0
    exact ⟨rfl, H.out⟩
set_option maxRecDepth 100000 in
theorem pord_any (p : Pt) (i : Int) (d : Z.D w gd S n p.m) (ok : p.m.Ok n) (hi : -9223372036854775808 ≤ i ∧ i ≤ 9223372036854775807) (h : PoB w g gd p.e cs t) (hg : ¬ S g) :
    Calls Try.prog 63 #[.pointer (some ⟨g, 0, none⟩), .int .i64 i] w fun e w' => e = .returned (.agg (cellsB (p.rdS n i)).toArray) ∧ LeftP Z w g gd S n cs t (p.rd n i) w' := by
  obtain ⟨m, e⟩ := p
  obtain ⟨w0, hw0⟩ : ∃ w0, (w.alloc (.cells (cellsB zsec).toArray 97)).alloc (.cells (cellsB zsec).toArray 97) = w0 := ⟨_, rfl⟩
  have hb : Below w.heap.size w w0 := by rw [← hw0]; exact ((Below.refl _ _).alloc (Nat.le_refl _) _).alloc (by simp) _
  have hr : Bw w0 w.heap.size 97 zsec := by rw [← hw0]; exact (Bw.new w zsec _).alloc _
  have hv : Bw w0 (w.heap.size + 1) 97 zsec := by rw [← hw0]; exact bw_second w zsec zsec _ _
  have h0 := h.below hb
  have d0 : Z.D w0 gd S n m := Z.only d (Only.of_below (S := fun _ => False) hb (Nat.le_refl _)) (fun _ _ h => h)
  have hlt := h.lt
  have c0 := h0.d
  have c1 := h0.er
  have f1 := h0.fr 1
  have W0 := Lib.hid hw0
  obtain ⟨i1, i2⟩ := hi
  unfold Pt.rd Pt.rdS
  have hbl : ∀ w', Only (fun k => k = w.heap.size ∨ k = w.heap.size + 1) w0 w' → LeftP Z w g gd S n cs t ⟨m, e⟩ w' := fun w' ho => by
    have hb2 : Below w.heap.size w w' := hb.trans (ho.to_below (fun k hk => by omega) hb.size)
    exact LeftP.below hb2 h d
  by_cases he : e = 0
  · subst he
    rw [if_pos rfl]
    have C := Lib.hid (Z.read_any i d0 ok ⟨i1, i2⟩)
    obtain ⟨z, hz⟩ : ∃ z, m.readE n i = z := ⟨_, rfl⟩
    obtain ⟨l, hl⟩ : ∃ l, lst (m.readS n i) = l := ⟨_, rfl⟩
    obtain ⟨s, hs⟩ : ∃ s, (if (0 : Int) = 0 ∧ m.readE n i = 0 then lst (m.readS n i) else zsec) = s := ⟨_, rfl⟩
    have hls : l.length ≤ 512 ∧ over zsec 0 l = s ∧ s.length = 512 := by
      by_cases hz0 : m.readE n i = 0
      · have h5 : l.length = 512 := by
          have hi : 0 ≤ i ∧ i < n := by
            unfold RM.readE at hz0
            split at hz0
            · cases hz0
            · split at hz0
              · cases hz0
              · omega
          rw [← hl, lst_len']
          unfold RM.readS RM.at_
          rw [if_pos hz0]
          split
          · exact ok.lsz' (by omega)
          · rename_i hw
            exact (ok.wsz' (i := i.toNat) (by omega)).resolve_left hw
        rw [if_pos ⟨rfl, hz0⟩] at hs
        rw [← hs, hl]
        refine ⟨by omega, ?_, h5⟩
        unfold over
        rw [List.take_zero, List.nil_append, Nat.zero_add, List.drop_eq_nil_of_le (by rw [zsec_len, h5]; exact Nat.le_refl _), List.append_nil]
      · have h5 : l = [] := by
          rw [← hl]
          unfold RM.readS
          rw [if_neg hz0]
          rfl
        rw [if_neg (fun hh => hz0 hh.2)] at hs
        rw [← hs, h5]
        exact ⟨Nat.zero_le _, over_nil _ _, zsec_len⟩
    rw [hz, hl] at C
    rw [hs, hz]
    obtain ⟨hls1, hls2, hls3⟩ := hls
    have HS2 := Lib.hid hls2
    have HS3 := Lib.hid hls3
    have HF : Hid (∀ w1 w4, Below w0.heap.size w0 w1 → Only (fun k => k = w.heap.size ∨ k = w.heap.size + 1) (w1.setCell ⟨g, 1, none⟩ (.int .i64 z)) w4 → LeftP Z w g gd S n cs t ⟨m, z⟩ w4) := Lib.hid (fun w1 w4 hb1 ho => by
      have hbb : Below w.heap.size w w1 := hb.trans (hb1.mono hb.size)
      have h1 := (h0.below hb1).put z
      have d1 : Z.D w1 gd S n m := Z.only d0 (Only.of_below (S := fun _ => False) hb1 (Nat.le_refl _)) (fun _ _ h => h)
      have d2 : Z.D (w1.setCell ⟨g, 1, none⟩ (.int .i64 z)) gd S n m := Z.only d1 ((Only.refl (fun k => k = g) w1).setCell (p := ⟨g, 1, none⟩) rfl _) (fun k hk e => hg (e ▸ hk))
      have o2 : Only (fun k => S k ∨ k = g) w (w1.setCell ⟨g, 1, none⟩ (.int .i64 z)) := (Only.of_below hbb (Nat.le_refl _)).setCell (.inr rfl) _
      exact ⟨S, Z.only d2 ho (fun k hk hh => by have := Z.lt d _ hk; omega), fun _ hk => .inl hk, h1.only ho (by omega), o2.belowT (ho.to_below (fun k hk => by omega) o2.size)⟩)
    have H0 := Lib.hid h0
    have HR := Lib.hid hr
    have HV := Lib.hid hv
    have hv0 : w.heap.size + 1 < w0.heap.size := hv.lt
    have h0lt : g < w0.heap.size := h0.lt
    clear h hg d ok d0 h0 hb hw0 hr hv hbl hz hl hs hls2 hls3
    go_enter Try.func63, Try.ntmps63
    go_upto_region 2 with fail
    rw [zc97, W0.out]
    go_wp2_with (first
      | (go_at_call 84; refine C.out.mono ?_; rintro e w1 ⟨A1, n1, c1, rfl, own1, b1⟩
         have q := H0.out.below b1
         have f9 := q.fr 1
         have c9 := q.er
         have c8 := q.d
         have HN1 := Lib.hid own1.len
         have OX : Hid (HasB (w1.setCell ⟨g, 1, none⟩ (.int .i64 z)) w1.heap.size A1 n1 l) := Lib.hid (own1.hasOff b1 h0lt)
         have HV1 : Hid (Bw (w1.setCell ⟨g, 1, none⟩ (.int .i64 z)) (w.heap.size + 1) 97 zsec) := Lib.hid ((HV.out.below b1 HV.out.lt).far (show w.heap.size + 1 ≠ g by omega) _)
         have HR1 : Hid (Bw (w1.setCell ⟨g, 1, none⟩ (.int .i64 z)) w.heap.size 97 zsec) := Lib.hid ((HR.out.below b1 HR.out.lt).far (show w.heap.size ≠ g by omega) _)
         have B1 := Lib.hid b1
         clear q own1 b1)
      | (refine wp_copyB rfl (.tmp 24) (.tmp 25) rfl Try.underlying39 hsz1 (w.heap.size + 1) 0 512 512 _ zsec l HV1.out rfl _ A1 n1 c1 rfl OX.out (by have := HN1.out; omega) (by have := HN1.out; rw [zsec_len]; omega) ?_
         intro w2 h2 o2
         rw [HS2.out] at h2
         have H2 := Lib.hid h2
         have HR2 := Lib.hid (HR1.out.keepO o2 (by omega))
         have O2 := Lib.hid o2
         clear h2 o2)
      | (refine wp_load_sec rfl (.tmp 5) rfl (w.heap.size + 1) rfl _ s H2.out HS3.out ?_)
      | (refine wp_store_sec rfl (.tmp 4) (.tmp 27) rfl w.heap.size s rfl rfl _ zsec HR2.out zsec_len HS3.out ?_; intro w3 h3 o3))
    refine bodyPost_ret (v := .agg (cellsB s).toArray) (res_sec (p := 4) rfl _ rfl h3 HS3.out) (by rfl) ?_
    exact ⟨rfl, HF.out w1 w3 B1.out ((O2.out.mono (fun k _ hk => .inr hk)).trans (o3.mono (fun k _ hk => .inl hk)))⟩
  · rw [if_neg (fun hh => he hh.1), if_neg he]
    have he' : (e == 0) = false := by rw [beq_eq_false_iff_ne]; exact he
    have HR := Lib.hid hr
    have HV := Lib.hid hv
    have HL := Lib.hid hbl
    clear h hg d ok d0 h0 hb hw0 hr hv hbl
    go_enter Try.func63, Try.ntmps63
    go_upto_region 2 with fail
    rw [zc97, W0.out]
    go_wp2_with (first
      | (refine wp_load_sec rfl (.tmp 5) rfl (w.heap.size + 1) rfl _ zsec HV.out zsec_len ?_)
      | (refine wp_store_sec rfl (.tmp 4) (.tmp 27) rfl w.heap.size zsec rfl rfl _ zsec HR.out zsec_len zsec_len ?_; intro w2 h2 o2))
    refine bodyPost_ret (v := .agg (cellsB zsec).toArray) (res_sec (p := 4) rfl _ rfl h2 zsec_len) (by rfl) ?_
    exact ⟨rfl, HL.out w2 (o2.mono (fun k _ hk => .inl hk))⟩
end
end Go.Proofs.Ytkbbpkbchniddaa
