/-
  Own work. The program's disk: Copy.
-/
import Derived.Test.YtpnmcdpekfibjaaPn
namespace Go.Proofs.Ytpnmcdpekfibjaa
open Go.RowKit Go.Maps
set_option linter.unusedVariables false
set_option linter.unusedSimpArgs false

section
variable {S : Nat → Prop} {w w' : World} {g gd gp n : Nat} {m m' : RM} {x x' : PX} {D : DU}
/-- slices.Clone at sectors: a row of the call's own, with room to spare. -/
def RetSecs (w : World) (n : Nat) (l : List UInt8) (e : Ending) (w' : World) : Prop :=
  ∃ b c E, e = .returned (.slice (some ⟨b, 0, none⟩) n c) ∧ RowB w' b 68 l E ∧ w.heap.size ≤ b ∧ Below w.heap.size w w'
set_option maxRecDepth 100000 in
set_option maxHeartbeats 1000000 in
theorem cloneS_any (b c : Nat) (l : List UInt8) (E : List Value) (w : World) (h : RowB w b 68 l E) (hl : l.length = n * 512) (hn : n ≤ 4096) (hn0 : 0 < n) :
    Calls Try.prog 45 #[.slice (some ⟨b, 0, none⟩) n c] w (RetSecs w n l) := by
  have qS : ∀ (w : World) (a : Option Addr) (n c n' c' : Nat), (binOp .eql 53 (.slice a n c) (.slice none n' c')).run Try.prog w = .ok (.bool a.isNone) w := fun w a n c n' c' => Lib.run_eql_slice_nil w _ _ a n c n' c' Try.underlying53
  have hi : (Try.prog.info? 68).map (fun i => (i.zero, i.size, i.bytes)) = some (some (.agg (cellsB (zer 512)).toArray), 512, 512) := by kernel_rfl
  obtain ⟨i, h2, h3, h4, h5⟩ := info_parts hi
  have hzs : (Value.agg (cellsB (zer 512)).toArray).cells.size = 512 := by
    show (cellsB (zer 512)).toArray.size = 512
    rw [cellsB_size, zer_len]
  have hc : ∀ j u, (cellsB l)[j]? = some u → w.cell? ⟨b, 0 + j, none⟩ = some u := fun j u hu => by
    rw [Nat.zero_add, cell_of_row w b j _ _ (0, 0) h]
    have : (cellsB l ++ E)[j]? = some u := by rw [List.getElem?_append_left (List.getElem?_eq_some_iff.1 hu).1]; exact hu
    simpa using this
  have HC := Lib.hid hc
  have HZ := Lib.hid hzs
  have HL := Lib.hid hl
  clear h hi hc hzs hl
  go_enter Try.func45, Try.ntmps45
  go_wp2_with (at_builtin; refine wpList_append_own _ rfl (.tmp 5) (.tmp 6) 53 rfl w.heap.size 68 i _ 512 512 Try.underlying53 h2 h3 h4 h5 HZ.out (by omega) _ _ _ rfl (World.ownsRow_made w #[] 0 (Nat.le_refl _) (Nat.zero_le _) (by simp)) ⟨b, 0, none⟩ n c (cellsB l) rfl (by rw [cellsB_length]; exact HL.out) (fun j u hj => by rw [Addr.add_lit]; exact Lib.cell?_alloc_some _ (HC.out j u hj)) (cellsB_one l) (by unfold maxLen; omega) (by omega) (by simp) ?_; intro v' w1 hown hgrow hnil)
  go_ret
  have hb := ((Below.refl _ w).alloc (Nat.le_refl _) (.cells #[] 68)).grown hgrow (by simp) (by intro k hk; injection hk with hk; exact Nat.le_of_eq hk)
  rw [List.nil_append, Nat.zero_add] at hown
  rcases hown.2 with ⟨e, h0⟩ | ⟨b2, cap, cur, e, hbase, hcur, hle, hcap, hsz, htk⟩
  · omega
  · refine ⟨b2, cap, cur.toList.drop (n * 512), ?_, ?_, hbase, hb⟩
    · rw [← e]; rfl
    · unfold RowB
      rw [hcur, ← htk, List.take_append_drop]
/-- A copy, put together. -/
theorem PrD.copied {gd2 gp2 X : Nat} {x2 : PX} (h : PrD w g gd gp n m x D) (hb : w'.heap[X]? = some (.cells (pdC gd2 gp2 n m x2) 58 (0, 0))) (hr : RowB w' gd2 68 (flat m.last) x2.ex) (hm : w'.ownsMap Try.prog 3 secElem gp2 m.wrote D)
    (ht : OwnB w' 0 (.slice x2.TA x2.tn x2.tc) x2.tl) (e1 : x2.L = x.L) (e2 : x2.sc = x.sc) (e3 : x2.tl = x.tl) (d1 : X ≠ gd2) (d2 : X ≠ gp2) (d3 : gd2 ≠ gp2) (dt : ∀ k, (Value.slice x2.TA x2.tn x2.tc).ownBlock = some k → k ≠ X ∧ k ≠ gd2 ∧ k ≠ gp2) : PrD w' X gd2 gp2 n m x2 D :=
  ⟨hb, hr, hm, h.mo, ht, by rw [e1]; exact h.ar, by rw [e2, e3]; exact h.wy, d1, d2, d3, dt⟩
theorem pdC_ones (gd gp n : Nat) (m : RM) (x : PX) : (pdC gd gp n m x).all (·.oneCell') = true := by
  rw [Array.all_eq_true]
  intro i hi
  have hm : (pdC gd gp n m x)[i] ∈ (pdC gd gp n m x) := Array.getElem_mem hi
  revert hm
  generalize (pdC gd gp n m x)[i] = v
  intro hm
  simp only [pdC, List.mem_toArray, List.mem_cons, List.not_mem_nil, or_false] at hm
  rcases hm with rfl | rfl | rfl | rfl | rfl | rfl | rfl | rfl | rfl | rfl <;> rfl

set_option maxRecDepth 100000 in
set_option maxHeartbeats 2000000 in
theorem pcopy (h : PrD w g gd gp n m x D) (ok : m.Ok n) :
    Calls Try.prog 27 #[.pointer (some ⟨g, 0, none⟩)] w fun e w' => ∃ g' S', e = .returned (.pointer (some ⟨g', 0, none⟩)) ∧ PD w' g' S' n m ∧ (∀ k, S' k → w.heap.size ≤ k) ∧ Below w.heap.size w w' := by
  have N := Lib.hid (pnone_any h ok)
  have n1 := ok.n1
  have n2 := ok.n2
  have LD := Lib.hid (run_loadVar_row (P := Try.prog) w g _ 58 _ (0, 0) _ h.blk Try.underlying58 rfl infoDiskP)
  have HF : Hid ((flat m.last).length = n * 512) := Lib.hid (by rw [flat_len ok.ls, ok.nl, Nat.mul_comm])
  have H := Lib.hid h
  have hlt := Lib.hid h.lt
  have htn : x.tn ≤ 1073741824 := by
    have h1 := h.tr.len
    by_cases h0 : m.way < 0
    · rw [(h.wy.1 h0).2] at h1; simp at h1; omega
    · rw [(h.wy.2 (by omega)).2] at h1
      have h2 := ok.cm
      rw [lst_len] at h1
      omega
  have HTN := Lib.hid htn
  clear h ok htn
  obtain ⟨X, hX⟩ : ∃ X, w.heap.size = X := ⟨_, rfl⟩
  have Z0 : Hid ((w.alloc (.cells #[.slice none 0 0, .map none, .bool false, .bool false, .int .i64 0, .int .i64 0, .int .i64 0, .slice none 0 0, .int .i64 0, .int .i64 0] 58)).heap[w.heap.size]? = some (.cells #[.slice none 0 0, .map none, .bool false, .bool false, .int .i64 0, .int .i64 0, .int .i64 0, .slice none 0 0, .int .i64 0, .int .i64 0] 58 (0, 0))) := Lib.hid (heap_alloc_new w _)
  have HX := Lib.hid hX
  clear hX
  go_enter Try.func27, Try.ntmps27
  go_upto_region 4 with (first
    | (go_at_call 38; refine N.out.mono ?_; rintro e w1' ⟨rfl, rfl⟩)
    | (refine wpList_loadW rfl 58 (.tmp 7) rfl ⟨g, 0, none⟩ rfl _ LD.out ?_)
    | (refine wpList_allocW rfl 58 rfl _ zeroDiskP ?_)
    | (refine wpList_store_row rfl 58 (.tmp 3) (.tmp 8) rfl w.heap.size (pdC gd gp n m x) rfl rfl 58 _ Z0.out infoDiskP rfl (pdC_ones _ _ _ _ _) ?_))
  generalize hw2 : World.setRow _ _ _ = w2
  have hx2 : w2.heap[X]? = some (.cells (pdC gd gp n m x) 58 (0, 0)) := by rw [← hw2, ← HX.out]; exact setRow_heap _ _ _ _ 58 _ Z0.out
  have hb2 : Below X w w2 := by rw [← hw2, ← HX.out]; exact below_setRow ((Below.refl _ _).alloc (Nat.le_refl _) _) (Nat.le_refl _) _
  rw [HX.out]
  try go_frame
  have xlt2 : X < w2.heap.size := (Array.getElem?_eq_some_iff.1 hx2).1
  have D2 : Hid (PrD w2 g gd gp n m x D) := Lib.hid (H.out.keepB (by rw [HX.out]; exact hb2))
  have k0 := D2.out.du
  have X2 := Lib.hid hx2
  have BW2 := Lib.hid hb2
  have CS := Lib.hid (cloneS_any (n := n) gd x.cd (flat m.last) x.ex w2 D2.out.row HF.out n2 (by omega))
  have nXg : X ≠ g := fun e => by have := hlt.out g (.inl rfl); have := HX.out; omega
  clear hw2 hx2 hb2
  go_upto_region 5 with (first
    | (go_at_call 45; refine CS.out.mono ?_; rintro e w3 ⟨b, cb, E, rfl, row3, hb3, b3⟩
       have hx3 : w3.heap[X]? = some (.cells (pdC gd gp n m x) 58 (0, 0)) := (b3.block X xlt2).trans X2.out
       have k3 : w3.cell? ⟨X, 0, none⟩ = some (.slice (some ⟨gd, 0, none⟩) n x.cd) := cell_of_row w3 X 0 _ _ (0, 0) hx3
       have f3 := frozen_of_row w3 X 0 _ _ hx3
       have X3 := Lib.hid hx3
       have R3 := Lib.hid row3
       have B3 := Lib.hid b3
       have HB3 := Lib.hid hb3
       have D3 : Hid (PrD w3 g gd gp n m x D) := Lib.hid (D2.out.keepB b3)
       clear hx3 row3 b3 hb3))
  generalize hw4 : World.setCell w3 _ _ = w4
  have hx4 := heap_setCell_same w3 X 0 _ 58 (.slice (some ⟨b, 0, none⟩) n cb) X3.out
  have o4 : Only (fun j => j = X) w3 (w3.setCell ⟨X, 0, none⟩ (.slice (some ⟨b, 0, none⟩) n cb)) := (Only.refl _ _).cell1 _ _
  rw [hw4] at hx4 o4
  have nb : ∀ k, PrB g gd gp x k → ¬ k = X := fun k hk e => by have := hlt.out k hk; have := HX.out; omega
  have NB := Lib.hid nb
  have D4 : Hid (PrD w4 g gd gp n m x D) := Lib.hid (D3.out.only o4 nb)
  have k1 := D4.out.pm
  have X4 := Lib.hid hx4
  have O4 := Lib.hid o4
  have hbX : X < b := by have := HB3.out; omega
  have R4 : Hid (RowB w4 b 68 (flat m.last) E) := Lib.hid ((o4.block b R3.out.lt (by omega)).trans R3.out)
  have xlt4 : X < w4.heap.size := (Array.getElem?_eq_some_iff.1 hx4).1
  have blt4 : b < w4.heap.size := R4.out.lt
  have CM : Hid (Calls Try.prog 46 #[.map (some gp)] w4 fun e w' => e = .returned (.map (some w4.heap.size)) ∧ w'.ownsMap Try.prog 3 secElem w4.heap.size m.wrote D ∧ w'.ownsMap Try.prog 3 secElem gp m.wrote D ∧ Below w4.heap.size w4 w') := Lib.hid (AnyW.maps_Clone_owns clone46 3 secElem gp m.wrote D w4 D4.out.map)
  obtain ⟨q, hq⟩ : ∃ q, w4.heap.size = q := ⟨_, rfl⟩
  have HQ := Lib.hid hq
  clear hw4 hx4 o4 nb hq k0 f3 k3
  try go_frame
  go_upto_region 6 with (first
    | (go_at_call 46; refine CM.out.mono ?_; rintro e w5 ⟨rfl, own5, _, b5⟩
       have hx5 := (b5.block X xlt4).trans X4.out
       have k5 : w5.cell? ⟨X, 1, none⟩ = some (.map (some gp)) := cell_of_row w5 X 1 _ _ (0, 0) hx5
       have f5 := frozen_of_row w5 X 1 _ _ hx5
       have X5 := Lib.hid hx5
       have OW5 := Lib.hid own5
       have B5 := Lib.hid b5
       have D5 : Hid (PrD w5 g gd gp n m x D) := Lib.hid (D4.out.keepB b5)
       clear hx5 own5 b5))
  rw [HQ.out] at OW5 ⊢
  generalize hw6 : World.setCell w5 _ _ = w6
  have hx6 := heap_setCell_same w5 X 1 _ 58 (.map (some q)) X5.out
  have o6 : Only (fun j => j = X) w5 (w5.setCell ⟨X, 1, none⟩ (.map (some q))) := (Only.refl _ _).cell1 _ _
  rw [hw6] at hx6 o6
  have D6 : Hid (PrD w6 g gd gp n m x D) := Lib.hid (D5.out.only o6 NB.out)
  have k7 : w6.cell? ⟨g, 7, none⟩ = some (.slice x.TA x.tn x.tc) := D6.out.cell 7
  have X6 := Lib.hid hx6
  have O6 := Lib.hid o6
  have hqb : X < q ∧ b < q := by have := HQ.out; exact ⟨by omega, by omega⟩
  have R6 : Hid (RowB w6 b 68 (flat m.last) E) := Lib.hid ((o6.block b (Nat.lt_of_lt_of_le blt4 B5.out.size) (by omega)).trans ((B5.out.block b blt4).trans R4.out))
  have M6 := Lib.hid (ownsMap_only OW5.out o6 (by omega))
  have xlt6 : X < w6.heap.size := (Array.getElem?_eq_some_iff.1 hx6).1
  have CB := Lib.hid (cloneB_any x.TA x.tn x.tc x.tl w6 D6.out.tr.has HTN.out)
  clear hw6 hx6 o6 k1 k5 f5
  try go_frame
  go_wp2_with (first
    | (go_at_call 43; refine CB.out.mono ?_; rintro e w7 ⟨A7, n7, c7, rfl, own7, b7⟩
       have hx7 := (b7.block X xlt6).trans X6.out
       have k9 : w7.cell? ⟨X, 7, none⟩ = some (.slice x.TA x.tn x.tc) := cell_of_row w7 X 7 _ _ (0, 0) hx7
       have f7 := frozen_of_row w7 X 7 _ _ hx7
       have X7 := Lib.hid hx7
       have OW7 := Lib.hid own7
       have B7 := Lib.hid b7
       clear hx7 own7 b7))
  go_ret
  have hx8 := heap_setCell_same w7 X 7 _ 58 (.slice A7 n7 c7) X7.out
  have o8 : Only (fun j => j = X) w7 (w7.setCell ⟨X, 7, none⟩ (.slice A7 n7 c7)) := (Only.refl _ _).cell1 _ _
  have blt6 := R6.out.lt
  have qlt6 := M6.out.lt
  have htr : ∀ k, (Value.slice A7 n7 c7).ownBlock = some k → w6.heap.size ≤ k := fun k hk => (OW7.out.lt k hk).1
  have hp := H.out.copied (gd2 := b) (gp2 := q) (X := X) (x2 := { x with TA := A7, tn := n7, tc := c7, cd := cb, ex := E }) (w' := w7.setCell ⟨X, 7, none⟩ (.slice A7 n7 c7)) hx8 ((o8.block b (Nat.lt_of_lt_of_le blt6 B7.out.size) (by omega)).trans ((B7.out.block b blt6).trans R6.out))
    (ownsMap_only (ownsMap_only M6.out (Only.of_below (S := fun _ => False) B7.out (Nat.le_refl _)) (fun h => h)) o8 (by omega)) ((OW7.out.less (Nat.zero_le _)).only o8 (fun k hk e => by have := htr k hk; omega)) rfl rfl rfl (by omega) (by omega) (by omega)
    (fun k hk => by have := htr k hk; exact ⟨by omega, by omega, by omega⟩)
  refine ⟨X, _, rfl, ⟨b, q, _, D, hp, rfl⟩, ?_, ?_⟩
  · have hX := HX.out
    rintro k (rfl | rfl | rfl | hk)
    · omega
    · omega
    · omega
    · have := htr k hk
      omega
  · have hX := HX.out
    have s2 : X ≤ w2.heap.size := Nat.le_of_lt xlt2
    have b2 : Below X w w2 := BW2.out
    have b3 : Below X w w3 := b2.trans (B3.out.mono s2)
    have c4 : Below X w3 w4 := O4.out.to_below (fun k hk => Nat.le_of_eq hk.symm) (Nat.le_trans s2 B3.out.size)
    have b4 := b3.trans c4
    have b5 := b4.trans (B5.out.mono (Nat.le_of_lt xlt4))
    have c6 : Below X w5 w6 := O6.out.to_below (fun k hk => Nat.le_of_eq hk.symm) (Nat.le_trans (Nat.le_of_lt xlt4) B5.out.size)
    have b6 := b5.trans c6
    have b7 := b6.trans (B7.out.mono (Nat.le_of_lt xlt6))
    rw [hX]
    exact b7.trans (o8.to_below (fun k hk => Nat.le_of_eq hk.symm) (Nat.le_trans (Nat.le_of_lt xlt6) B7.out.size))
end
end Go.Proofs.Ytpnmcdpekfibjaa
