/-
  Own work. A transaction: Write, Begin, Commit.
-/
import Derived.Test.YtadagbkfemcgfaaGreatT7
import Derived.Tactics2
namespace Go.Proofs.YtadagbkfemcgfaaGreat
open Go.RowKit Go.Maps Go.Sort Go.Shelf
set_option linter.unusedVariables false
set_option linter.unusedSimpArgs false

theorem wpList_loadT {P : Program} {ops : Array Oper} {rest : List Oper} {o : Oper} {a : Act} {w : World} {Q : Exit → Act → World → Prop} (hw : Region.wanted o (yielded ops a.tmps) = true) (ty : TypeId) (x : Operand) (ho : o.op = .load ty x)
    (ad : Addr) (hx : a.eval x = .pointer (some ad)) (v : Value) (hl : (loadVar ty ad).run P w = .ok v w) (h : wpList P ops Q rest (a.put o.dst v) w) : wpList P ops Q (o :: rest) a w := by
  refine BigFrame.wpList_want hw fun K hK => ?_
  unfold Oper.wp execOp
  simp only [ho, hx, Instr.loadAt, Instr.sureAddr, Sem.run_bind, Sem.run_pure, Result.andThen_ok, hl]
  exact hK _ _ h
theorem load_tsecH {w : World} {B g o n : Nat} {l : List UInt8} (h : HasB w B (some ⟨g, o, none⟩) n l) (hl : l.length = 512) : (loadVar 85 ⟨g, o, none⟩).run Tryz.prog w = .ok (.agg (cellsB l).toArray) w := by
  obtain ⟨g', o', e, _, hc⟩ := h.2 (by have := h.1; omega)
  simp only [Option.some.injEq, Addr.mk.injEq, and_true] at e
  obtain ⟨rfl, rfl⟩ := e
  have hc' : (loadCells ⟨g, o, none⟩ (cellsB l).length).run Tryz.prog w = .ok (cellsB l).toArray w :=
    run_loadCells_list (P := Tryz.prog) w ⟨g, o, none⟩ (cellsB l) (fun j v hv => by
      obtain ⟨b, hb, rfl⟩ := cellsB_at hv
      rw [Addr.add_lit]
      exact hc j b hb)
  cases hq : Tryz.prog.info? 85 with
  | none => have := infoTsec; rw [hq] at this; cases this
  | some i =>
    have hs : i.size = (cellsB l).length := by have := infoTsec; rw [hq] at this; rw [cellsB_length, hl]; simpa using this
    simp [loadVar, Sem.run_bind, isAgg, run_underlying Tryz.underlying85 w, sizeOf, typeInfo, hq, hs, hc']
section
variable {w w' W : World} {gt g gd gp gm T h q n : Nat} {ws : List ByteArray} {M S B : Nat → Prop} {v : Value} {Z : DK} {w0 : World} {p : Pt} {j : JM}
/-- What stands behind a Write. -/
def RetWr (w : World) (gt g T h q : Nat) (ws : List ByteArray) (M : Nat → Prop) (i : Nat) (l : List UInt8) (en : Ending) (w' : World) : Prop :=
  en = .returned (.int .i64 0) ∧ ∃ M', TO w' gt g T h (q + 1) (ws.set i (strB l)) M' ∧ (∀ k, M' k → M k ∨ (w.heap.size ≤ k ∧ k < w'.heap.size)) ∧ Only (fun k => k = gt) w w'
/-- The map's clone, put into the transaction, with one more sector. -/
theorem tx_put {w4 : World} {D : DU} {pb : Nat → Nat} {i b gm2 : Nat} {l : List UInt8} (a : TO w gt g T h q ws M) (hD : MapOfP D h ws pb) (hpb : ∀ i, i < h → (ws.getD i emp).size ≠ 0 → M (pb i) ∧ Bw w (pb i) 85 (lst (ws.getD i emp)))
    (hb : w4.heap[gt]? = some (.cells (txC g T gm2) 64 (0, 0))) (hm : w4.ownsMap Tryz.prog 3 ptrElem gm2 (q + 1) (D.put (kI i) (.lit (.int .i64 (b : Int))))) (hB : Bw w4 b 85 l) (hl : l.length = 512) (hi : i < h)
    (ho : Only (fun k => k = gt) w w4) (h1 : w.heap.size ≤ b) (h2 : w.heap.size ≤ gm2) : ∃ M', TO w4 gt g T h (q + 1) (ws.set i (strB l)) M' ∧ (∀ k, M' k → M k ∨ (w.heap.size ≤ k ∧ k < w4.heap.size)) := by
  have hgt := a.lt
  obtain ⟨⟨gm, _, v⟩, ng, tn⟩ := a
  have hblt : b < w4.heap.size := (Array.getElem?_eq_some_iff.1 hB).1
  have hglt := hm.lt
  refine ⟨fun k => M k ∨ k = b ∨ k = gm2, ⟨⟨gm2, hb, ⟨_, _, hm, hD.put v.wl hi (by rw [strB_size]; omega) b, fun k hk hne => ?_⟩, .inr (.inr rfl), fun k hk => ?_, by rw [List.length_set]; exact v.wl, fun s hs => ?_, v.hh⟩, fun hh => ?_, tn⟩, fun k hk => ?_⟩
  · rw [getD_set _ _ _ _ (by rw [v.wl]; exact hi)] at hne ⊢
    by_cases e : i = k
    · subst e
      rw [if_pos rfl, if_pos rfl, lst_strB]
      exact ⟨.inr (.inl rfl), hB⟩
    · rw [if_neg e] at hne ⊢
      rw [if_neg (fun e' => e e'.symm)]
      obtain ⟨m1, m2⟩ := hpb k hk hne
      exact ⟨.inl m1, (ho.block _ (v.ml _ m1) (fun e' => ng (e' ▸ m1))).trans m2⟩
  · rcases hk with hk | rfl | rfl
    · exact Nat.lt_of_lt_of_le (v.ml _ hk) ho.size
    · exact hblt
    · exact hglt
  · rcases List.mem_or_eq_of_mem_set hs with hs | hs
    · exact v.wz s hs
    · subst hs; exact .inr (by rw [strB_size]; exact hl)
  · rcases hh with hh | hh | hh
    · exact ng hh
    · omega
    · omega
  · rcases hk with hk | rfl | rfl
    · exact .inl hk
    · exact .inr ⟨h1, hblt⟩
    · exact .inr ⟨h2, hglt⟩
set_option maxRecDepth 100000 in
set_option maxHeartbeats 2000000 in
theorem twrite_ok (a : TO w gt g T h q ws M) (u : UpB Z w0 w g gd gp n p j B) (ok : p.m.Ok n) (hjh : j.homes n = h) (i : Nat) (hi : i < h) (A : Option Addr) (c : Nat) (l : List UInt8) (hd : HasB w w.heap.size A 512 l) (hl : l.length = 512) (hc : 512 ≤ c)
    (hfit : (ws.getD i emp).size ≠ 0 ∨ (frK ws h).length < 40) (hq : q < 1073741824) :
    Calls Tryz.prog 32 #[.pointer (some ⟨gt, 0, none⟩), .int .i64 (i : Int), .slice A 512 c] w (RetWr w gt g T h q ws M i l) := by
  have C := Lib.hid (tfin_any a)
  have CH := thomes_any a u ok
  rw [hjh] at CH
  have CHm := Lib.hid CH
  have AA := Lib.hid a
  obtain ⟨gm, c0, c1, c2, v, hblk⟩ := a.cells
  have hgt := a.lt
  have hh := v.hh
  obtain ⟨D, pb, hm, hD, hpb⟩ := v.ex
  obtain ⟨ga, oa, rfl, hga, _⟩ := hd.2 (by omega)
  have HM := Lib.hid hm
  have HD := Lib.hid hD
  have HPB := Lib.hid hpb
  have HDT := Lib.hid hd
  have HL := Lib.hid hl
  have HBK := Lib.hid hblk
  have hmlt := hm.lt
  have hih : (i : Int) < (h : Int) := by omega
  have HQ : Hid (q < 1073741824) := Lib.hid hq
  have CCL : Hid (∀ (W : World), W.ownsMap Tryz.prog 3 ptrElem gm q D → Calls Tryz.prog 45 #[.map (some gm)] W fun e W' => e = .returned (.map (some W.heap.size)) ∧ W'.ownsMap Tryz.prog 3 ptrElem W.heap.size q D ∧ W'.ownsMap Tryz.prog 3 ptrElem gm q D ∧ Below W.heap.size W W') := Lib.hid (fun W hW => AnyW.maps_Clone_owns cloneT 3 ptrElem gm q D W hW)
  have zc : ∀ W : World, Hid (Bw (W.alloc (.cells (cellsB zsec).toArray 85)) W.heap.size 85 zsec) := fun W => Lib.hid (Bw.new W zsec _)
  have ZC := Lib.hid zc
  obtain ⟨bt, hbt⟩ : ∃ bt, twB ws i = bt := ⟨_, rfl⟩
  have HBT := Lib.hid hbt
  have HF : Hid (bt = false → (frK ws h).length < 40) := Lib.hid (fun e => by
    rcases hfit with h1 | h1
    · rw [← hbt] at e
      exact absurd h1 (of_decide_eq_false e)
    · exact h1)
  obtain ⟨N, hN⟩ : ∃ N, (frK ws h).length = N := ⟨_, rfl⟩
  rw [hN] at HF
  have CT := ttouch_any a
  rw [hN] at CT
  clear a u ok hjh v hm hD hpb hd hl hfit hblk zc hbt CH hq CT
  go_enter Tryz.func32, Tryz.ntmps32
  go_upto_region 7 with (first
    | (go_at_call 39; refine C.out.mono ?_; rintro e w1 ⟨rfl, rfl⟩)
    | (go_at_call 41; refine CHm.out.mono ?_; rintro e w1 ⟨rfl, b1⟩
       have B1 := Lib.hid b1
       have A1 := Lib.hid (AA.out.below b1)
       have M1 := Lib.hid (ownsMap_onlyP HM.out (Only.of_below (S := fun _ => False) b1 (Nat.le_refl _)) (fun h => h))
       have k2 : w1.cell? ⟨gt, 2, none⟩ = some (.map (some gm)) := (b1.cell hgt).trans c2
       have k0 : w1.cell? ⟨gt, 0, none⟩ = some (.pointer (some ⟨g, 0, none⟩)) := (b1.cell hgt).trans c0
       have BK1 := Lib.hid ((b1.block _ hgt).trans HBK.out)
       have HD1 := Lib.hid (HDT.out.on b1)
       clear b1))
  have LD := Lib.hid (load_tsecH HD1.out HL.out)
  have TC := ttouch_any A1.out
  rw [hN] at TC
  have TCH := Lib.hid TC
  have hz1 : w.heap.size ≤ w1.heap.size := B1.out.size
  have hgt1 : gt < w1.heap.size := Nat.lt_of_lt_of_le hgt hz1
  clear TC hN
  cases bt
  all_goals
    try have hN40 : N < 40 := HF.out rfl
    go_upto_region 10 with (first
      | (refine wp_lookT rfl (.tmp 27) (.tmp 28) rfl rfl i rfl D pb M1.out HD.out hh hi ?_; rw [HBT.out])
      | (go_at_call 44; refine TCH.out.mono ?_; rintro e w2 ⟨rfl, rfl⟩))
    go_upto_region 11 with (first
      | (refine wpList_arrayAt (by rfl) 85 5 512 (.tmp 39) rfl Tryz.underlying85 _ 512 c rfl (Nat.le_refl _) ?_)
      | (refine wpList_loadT (by rfl) 85 (.tmp 40) rfl ⟨ga, oa, none⟩ rfl _ LD.out ?_)
      | (rw [zcT]; refine wp_store_tsec rfl (.tmp 9) (.tmp 41) rfl w1.heap.size l rfl rfl _ zsec (ZC.out w1).out zsec_len HL.out ?_; intro w3 h3 o3
         have H3 := Lib.hid h3
         have b3 : Below w1.heap.size w1 w3 := ((Below.refl _ w1).alloc (Nat.le_refl _) _).trans (o3.to_below (B := w1.heap.size) (fun k hk => by omega) (by simp))
         have B3 := Lib.hid b3
         have hz3 : w1.heap.size < w3.heap.size := (Array.getElem?_eq_some_iff.1 h3).1
         have k32 : w3.cell? ⟨gt, 2, none⟩ = some (.map (some gm)) := (b3.cell hgt1).trans k2
         have CC3 := Lib.hid (CCL.out w3 (ownsMap_onlyP M1.out (Only.of_below (S := fun _ => False) b3 (Nat.le_refl _)) (fun h => h)))
         have BK3 := Lib.hid ((b3.block _ hgt1).trans BK1.out)
         clear h3 o3 b3))
    obtain ⟨G, hG⟩ : ∃ G, w3.heap.size = G := ⟨_, rfl⟩
    have hG1 : w1.heap.size < G := by omega
    have HGG := Lib.hid hG
    rw [hG] at CC3
    clear hG
    go_upto_region 12 with (first
      | (go_at_call 45; refine CC3.out.mono ?_; rintro e w4 ⟨rfl, m4, _, b4⟩
         have b4' : Below w3.heap.size w3 w4 := by rw [HGG.out]; exact b4
         have hz4 : w1.heap.size < w4.heap.size := by have := b4'.size; omega
         have bk4 : w4.heap[gt]? = some (.cells (txC g T gm) 64 (0, 0)) := (b4'.block _ (by omega)).trans BK3.out
         have BK4 := Lib.hid bk4
         have k42 : w4.cell? ⟨gt, 2, none⟩ = some (.map (some gm)) := cell_of_row w4 gt 2 _ _ (0, 0) bk4
         have f42 : w4.frozen? ⟨gt, 2, none⟩ = false := frozen_of_row w4 gt 2 _ _ bk4
         have M4 := Lib.hid m4
         have B4 := Lib.hid b4'
         have BS4 := Lib.hid ((b4'.block _ hz3).trans H3.out)
         clear m4 b4 b4' bk4))
    have bk5 := heap_setCell_same w4 gt 2 _ _ (.map (some G)) BK4.out
    have BK5 : Hid ((w4.setCell ⟨gt, 2, none⟩ (.map (some G))).heap[gt]? = some (.cells (txC g T G) 64 (0, 0))) := Lib.hid bk5
    have Y5 : Hid (Only (fun k => k = gt) w4 (w4.setCell ⟨gt, 2, none⟩ (.map (some G)))) := Lib.hid ((Only.refl (fun k => k = gt) w4).setCell (p := ⟨gt, 2, none⟩) rfl _)
    have M5 := Lib.hid (ownsMap_onlyP M4.out Y5.out (show ¬ G = gt by omega))
    have k52 : (w4.setCell ⟨gt, 2, none⟩ (.map (some G))).cell? ⟨gt, 2, none⟩ = some (.map (some G)) := cell_of_row _ gt 2 _ _ (0, 0) BK5.out
    obtain ⟨w5, hw5⟩ : ∃ w5, w4.setCell ⟨gt, 2, none⟩ (.map (some G)) = w5 := ⟨_, rfl⟩
    rw [hw5]
    rw [hw5] at BK5 Y5 M5 k52
    have BS5 := Lib.hid ((Y5.out.block _ hz4 (show ¬ w1.heap.size = gt by omega)).trans BS4.out)
    clear hw5 bk5
    go_wp2_with (first
      | (at_mapUpdate; refine wpList_mapUpdate_own w5 rfl (.tmp 53) (.tmp 54) (.tmp 9) 62 rfl 3 83 intK Tryz.underlying62 ptrElem G q D rfl M5.out (by have := HQ.out; simp only [maxLen]; omega) _ _ (kI i) rfl rfl (keyI (by omega)) (.lit (.int .i64 (w1.heap.size : Int))) [] (ptrElem_mk _) ?_; intro w6 own6 g6
         have OW6 := Lib.hid own6
         have O6 := Lib.hid (Only.grown g6)
         clear own6 g6))
    have y6 : Only (fun k => k = gt) w w6 := by
      have a1 : Only (fun k => k = gt ∨ w1.heap.size ≤ k) w1 w6 := ((Only.of_below B3.out (Nat.le_refl _)).trans (Only.of_below B4.out (by omega))).trans ((Y5.out.mono (fun k _ hk => .inl hk)).trans (O6.out.mono (fun k _ hk => .inr (by omega))))
      refine (Only.of_below B1.out (Nat.le_refl _)).trans ?_
      exact a1.mono (fun k hk hk2 => hk2.elim id (fun h => by omega))
    have YY := Lib.hid y6
    have TP := Lib.hid (tx_put (gm2 := G) (b := w1.heap.size) (l := l) AA.out HD.out HPB.out ((O6.out.block _ (Array.getElem?_eq_some_iff.1 BK5.out).1 (show ¬ gt = G by omega)).trans BK5.out) OW6.out ((O6.out.block _ (Array.getElem?_eq_some_iff.1 BS5.out).1 (show ¬ w1.heap.size = G by omega)).trans BS5.out) HL.out hi y6 hz1 (by omega))
    clear y6
    go_ret
    obtain ⟨M', t1, t2⟩ := TP.out
    exact ⟨rfl, M', t1, t2, YY.out⟩
end
end Go.Proofs.YtadagbkfemcgfaaGreat
