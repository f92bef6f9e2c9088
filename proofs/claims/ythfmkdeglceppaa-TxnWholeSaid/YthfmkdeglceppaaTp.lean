/-
  Own work. A transaction: Read, its list of what is to be committed.
-/
import Derived.Test.YthfmkdeglceppaaTo
namespace Go.Proofs.Ythfmkdeglceppaa
open Go.RowKit Go.Maps Go.Sort Go.Shelf
set_option linter.unusedVariables false
set_option linter.unusedSimpArgs false

theorem zcT : Try.zeroCells109 = (cellsB zsec).toArray := by kernel_rfl
section
variable {w w' W : World} {gt g gd gp gm T h q n : Nat} {ws : List ByteArray} {M S B : Nat → Prop} {v : Value} {Z : DK} {w0 : World} {p : Pt} {j : JM}
theorem wp_load_tsec {ops : Array Oper} {rest : List Oper} {o : Oper} {a : Act} {Q : Exit → Act → World → Prop} (hgd : o.guard = none) (x : Operand) (ho : o.op = .load 109 x)
    (g : Nat) (hx : a.eval x = .pointer (some ⟨g, 0, none⟩)) (t : TypeId) (s : List UInt8) (hB : Bw w g t s) (hs : s.length = 512) (h : wpList Try.prog ops Q rest (a.put o.dst (.agg (cellsB s).toArray)) w) : wpList Try.prog ops Q (o :: rest) a w :=
  wpList_load_row hgd _ x ho g hx t _ (0, 0) _ hB Try.underlying109 rfl (tsec_iv hs) h
theorem wp_store_tsec {ops : Array Oper} {rest : List Oper} {o : Oper} {a : Act} {Q : Exit → Act → World → Prop} (hgd : o.guard = none) (x y : Operand) (ho : o.op = .store 109 x y)
    (g : Nat) (s : List UInt8) (hx : a.eval x = .pointer (some ⟨g, 0, none⟩)) (hy : a.eval y = .agg (cellsB s).toArray) (t : TypeId) (old : List UInt8) (hB : Bw w g t old) (ho' : old.length = 512) (hs : s.length = 512)
    (h : ∀ w', Bw w' g t s → Only (fun k => k = g) w w' → wpList Try.prog ops Q rest (a.put o.dst undef) w') : wpList Try.prog ops Q (o :: rest) a w :=
  wpList_store_row hgd _ x y ho g _ hx hy t _ hB (tsec_iv hs) (by rw [cellsB_size, cellsB_size, ho', hs]) (cellsB_ones s) (h _ hB.row ((Only.refl _ w).setRow (S := fun k => k = g) rfl _))
theorem keyZt {z : Int} (h : -9223372036854775808 ≤ z ∧ z ≤ 9223372036854775807) : keyOf Try.prog 3 (.int .i64 z) = some (.int .i64 z) := keyOf_int_mk Try.underlying3 (by
  have hm : IntKind.i64.min = -9223372036854775808 := rfl
  have hM : IntKind.i64.max = 9223372036854775807 := rfl
  simp [Lit.wf, hm, hM]
  omega)
/-- Nothing is written at i. -/
def TNo (ws : List ByteArray) (h : Nat) (i : Int) : Prop := i < 0 ∨ (h : Int) ≤ i ∨ (ws.getD i.toNat emp).size = 0
theorem MapOfP.out {D : DU} {pb : Nat → Nat} (hD : MapOfP D h ws pb) {i : Int} (hi : TNo ws h i) : Maps.has D (.int .i64 i) = false := by
  cases hh : Maps.has D (.int .i64 i) with
  | false => rfl
  | true =>
    obtain ⟨k, hk, e⟩ := hD.hs _ hh
    have ek : i = (k : Int) := by
      unfold kI at e
      injection e
    subst ek
    have h2 := hD.hi k hk
    have e2 : Maps.has D (kI k) = true := hh
    rw [e2] at h2
    have h3 := of_decide_eq_true h2.symm
    rcases hi with h4 | h4 | h4
    · omega
    · omega
    · exact absurd (by simpa using h4) h3
/-- A look with 'ok' where nothing is. -/
theorem wp_lookT_no {ops : Array Oper} {rest : List Oper} {o : Oper} {a : Act} {Q : Exit → Act → World → Prop} (hg : o.guard = none) (mo xo : Operand) (hop : o.op = Op.lookup 72 mo xo true)
    (hm : a.eval mo = .map (some gm)) (i : Int) (hi : -9223372036854775808 ≤ i ∧ i ≤ 9223372036854775807) (hx : a.eval xo = .int .i64 i) (D : DU) (pb : Nat → Nat) (hmm : W.ownsMap Try.prog 3 ptrElem gm q D) (hD : MapOfP D h ws pb) (hno : TNo ws h i)
    (hK : ∀ v, wpList Try.prog ops Q rest (a.put o.dst (.tuple #[v, .bool false])) W) : wpList Try.prog ops Q (o :: rest) a W := by
  refine wpList_lookup_own_ok W hg mo xo 72 hop 3 107 intK Try.underlying72 ptrElem (zeroTptr W) (.lit (.int .i64 (-1))) [] rfl gm q D hm hmm _ (.int .i64 i) hx (keyZt hi) ?_
  intro v ps hv
  rw [hD.out hno]
  exact hK v
set_option maxRecDepth 100000 in
/-- Read of what it did not write. -/
theorem tread_thru (a : TO w gt g T h q ws M) (u : UpB Z w0 w g gd gp n p j B) (ok : p.m.Ok n) (i : Int) (hi : -9223372036854775808 ≤ i ∧ i ≤ 9223372036854775807) (hno : TNo ws h i) :
    Calls Try.prog 36 #[.pointer (some ⟨gt, 0, none⟩), .int .i64 i] w fun en W' => (∃ A q c, en = .returned (.tuple #[.slice A q c, .int .i64 (jrE p n j i)]) ∧ OwnX W' w.heap.size (.slice A q c) (jrS p n j i)) ∧ UpB Z w0 W' g gd gp n (jrP p n j i) j B ∧ Only (fun k => ¬ B k) w W' := by
  have C := Lib.hid (tfin_any a)
  have CR := Lib.hid (u.readC ok i hi)
  obtain ⟨gm, c0, c1, c2, v, _⟩ := a.cells
  obtain ⟨⟨D, pb, hm, hD, hb⟩, mg, ml, wl, wz, hh⟩ := v
  have HM := Lib.hid hm
  have HD := Lib.hid hD
  have HN := Lib.hid hno
  obtain ⟨E, hE⟩ : ∃ E, jrE p n j i = E := ⟨_, rfl⟩
  obtain ⟨s, hs⟩ : ∃ s, jrS p n j i = s := ⟨_, rfl⟩
  obtain ⟨p2, hp2⟩ : ∃ p2, jrP p n j i = p2 := ⟨_, rfl⟩
  rw [hE, hs, hp2] at CR ⊢
  clear a u ok hm hD hb ml wl wz hno hE hs hp2
  go_enter Try.func36, Try.ntmps36
  go_wp2_with (first
    | (go_at_call 61; refine C.out.mono ?_; rintro e w1 ⟨rfl, rfl⟩)
    | (refine wp_lookT_no rfl (.tmp 15) (.tmp 16) rfl rfl i hi rfl D pb HM.out HD.out HN.out ?_; intro v0)
    | (go_at_call 28; refine CR.out.mono ?_; rintro e w2 ⟨⟨A2, q2, c2', rfl, x2⟩, u2, y2⟩
       have X2 := Lib.hid x2
       have U2 := Lib.hid u2
       have Y2 := Lib.hid y2
       clear x2 u2 y2))
  go_ret2
  exact ⟨⟨_, _, _, rfl, X2.out⟩, U2.out, Y2.out⟩
set_option maxRecDepth 100000 in
/-- Read of what it wrote itself. -/
theorem tread_own (a : TO w gt g T h q ws M) (i : Nat) (hi : i < h) (hne : (ws.getD i emp).size ≠ 0) :
    Calls Try.prog 36 #[.pointer (some ⟨gt, 0, none⟩), .int .i64 (i : Int)] w fun en w' => ∃ A q c, en = .returned (.tuple #[.slice A q c, .int .i64 0]) ∧ OwnX w' w.heap.size (.slice A q c) (lst (ws.getD i emp)) ∧ Below w.heap.size w w' := by
  have C := Lib.hid (tfin_any a)
  obtain ⟨gm, c0, c1, c2, v, _⟩ := a.cells
  obtain ⟨⟨D, pb, hm, hD, hb⟩, mg, ml, wl, wz, hh⟩ := v
  obtain ⟨m1, m2⟩ := hb i hi hne
  have hl : (lst (ws.getD i emp)).length = 512 := by
    have hmem : ws.getD i emp ∈ ws := by
      rw [List.getD_eq_getElem?_getD, List.getElem?_eq_getElem (by omega)]
      exact List.getElem_mem _
    rcases wz _ hmem with h0 | h0
    · exact absurd h0 hne
    · exact h0
  have PA : Hid (tpA ws pb i = some ⟨pb i, 0, none⟩) := Lib.hid (by unfold tpA; rw [if_neg hne])
  have PB : Hid (twB ws i = true) := Lib.hid (decide_eq_true hne)
  obtain ⟨s, hs⟩ : ∃ s, lst (ws.getD i emp) = s := ⟨_, rfl⟩
  rw [hs] at m2 hl ⊢
  have HM := Lib.hid hm
  have HD := Lib.hid hD
  have B2 := Lib.hid m2
  have HL := Lib.hid hl
  have hlt := ml _ m1
  have zc : ∀ W : World, Hid (Bw (W.alloc (.cells (cellsB zsec).toArray 109)) W.heap.size 109 zsec) := fun W => Lib.hid (Bw.new W zsec _)
  have ZC := Lib.hid zc
  clear a hm hD hb m1 m2 hs hl ml wl wz hne zc
  go_enter Try.func36, Try.ntmps36
  go_wp2_with (first
    | (go_at_call 61; refine C.out.mono ?_; rintro e w1 ⟨rfl, rfl⟩)
    | (refine wp_lookT rfl (.tmp 15) (.tmp 16) rfl rfl i rfl D pb HM.out HD.out hh hi ?_; rw [PA.out, PB.out])
    | (refine wp_load_tsec rfl (.tmp 22) rfl (pb i) rfl _ s B2.out HL.out ?_)
    | (rw [zcT]; refine wp_store_tsec rfl (.tmp 8) (.tmp 23) rfl w.heap.size s rfl rfl _ zsec (ZC.out w).out zsec_len HL.out ?_; intro w3 h3 o3
       have H3 := Lib.hid h3
       have B3 : Hid (Below w.heap.size w w3) := Lib.hid (((Below.refl _ w).alloc (Nat.le_refl _) _).trans (o3.to_below (B := w.heap.size) (fun k hk => by omega) (by simp)))
       clear h3 o3))
  go_ret2
  exact ⟨some ⟨w.heap.size, 0, none⟩, 512, 512, rfl, OwnX.of_block H3.out (Nat.le_refl _) HL.out.symm (by simp only [maxLen]; omega), B3.out⟩
end
end Go.Proofs.Ythfmkdeglceppaa
