/-
  Own work. copy into a block known whole; the contract of mac's keyBlock.
-/
import Derived.Test.YtkpmfpbeidhcbaaEd
import Derived.Test.YtkpmfpbeidhcbaaTk
namespace Go.Proofs.Ytkpmfpbeidhcbaa
open Go.RowKit
set_option linter.unusedVariables false
set_option linter.unusedSimpArgs false

/-- copy(x[:], b) into an array that lies in a block known whole. -/
theorem wp_copyB {P : Program} {w : World} {ops : Array Oper} {rest : List Oper} {o : Oper} {a : Act} {Q : Exit → Act → World → Prop} (hgd : o.guard = none) (d s : Operand)
    (ho : o.op = .call { callee := .builtin .copy, args := #[d, s], argTypes := #[22, 22] }) (ht : P.underlying 22 = some (.slice 5)) (hsz : (P.info? 5).map (·.size) = some 1)
    (g N c0 : Nat) (t : TypeId) (L m : List UInt8) (hd : a.eval d = .slice (some ⟨g, 0, none⟩) N c0) (hg : Bw w g t L) (hN : N = L.length)
    (B : Nat) (A : Option Addr) (n c : Nat) (hs : a.eval s = .slice A n c) (hm : HasB w B A n m) (hle : n ≤ N) (base : Nat) (w0 : World) (hb0 : Below base w0 w) (hbg : base ≤ g)
    (h : ∀ w', Bw w' g t (m ++ L.drop m.length) → Below base w0 w' → wpList P ops Q rest (a.put o.dst (goInt (cellsB m).length)) w') : wpList P ops Q (o :: rest) a w := by
  obtain ⟨hnl, hcell⟩ := hm
  refine wpList_copy_splice hgd d s _ _ ho 5 ht hsz _ _ _ _ _ _ hd hs g 0 (cellsB L) t hg (cellsB m) (by rw [cellsB_length]; show _ = min n N; omega) ?_ (by rw [cellsB_length, cellsB_length]; omega) (cellsB_one m) base w0 hb0 hbg ?_
  · intro hpos
    obtain ⟨g', o', e, _, hc⟩ := hcell (by rw [cellsB_length] at hpos; omega)
    refine ⟨rfl, ⟨g', o', none⟩, e, fun j v hv => ?_⟩
    obtain ⟨b, hb, rfl⟩ := cellsB_at hv
    rw [Addr.add_lit]
    exact hc j b hb
  · intro w' hh hb
    refine h w' ?_ hb
    have := hh.out
    have e : splice (cellsB L) 0 (cellsB m) = cellsB (m ++ L.drop m.length) := by
      simp [splice, cellsB, List.map_drop]
    rw [e] at this
    exact this
theorem sizeU8 : (Try.prog.info? 5).map (·.size) = some 1 := by kernel_rfl

/-- The key as a block. -/
def keyL (k : List UInt8) : List UInt8 := if 64 < k.length then sumS k ++ zer 32 else k ++ zer (64 - k.length)
theorem keyL_len (k : List UInt8) : (keyL k).length = 64 := by
  unfold keyL
  split
  · rw [List.length_append, sum_len, zer_len]
  · rw [List.length_append, zer_len]; omega

set_option maxRecDepth 100000 in
set_option maxHeartbeats 400000 in
theorem keyBlock_any (A : Option Addr) (n c : Nat) (l : List UInt8) (w : World) (h : HasB w w.heap.size A n l) (hc : n ≤ c) (hn : n ≤ 1073741824) :
    Calls Try.prog 24 #[.slice A n c] w (RetA w (keyL l)) := by
  have hl := h.len
  have hk := keyL_len l
  have HS := Lib.hid h
  have HL := Lib.hid hl
  obtain ⟨K, hK⟩ : ∃ K, keyL l = K := ⟨_, rfl⟩
  rw [hK] at hk ⊢
  have IV := Lib.hid (blk_iv K hk)
  have HZ := Lib.hid (blk_hz K hk)
  have HK := Lib.hid hK
  clear h hl hk hK
  go_enter Try.func24, Try.ntmps24
  go_upto_region 2 with fail
  generalize hw1 : World.alloc (World.alloc _ _) _ = w1
  have hb1 : Below w.heap.size w w1 := by
    rw [← hw1]
    exact ((Below.refl _ _).alloc (Nat.le_refl _) _).alloc (by simp) _
  have hr1 : Bw w1 w.heap.size 45 (zer 64) := by
    rw [← hw1]
    exact (Bw.new w (zer 64) _).alloc _
  have hk1 : Bw w1 (w.heap.size + 1) 45 (zer 64) := by
    rw [← hw1]
    exact bw_second w (zer 64) (zer 64) _ _
  have HB1 := Lib.hid hb1
  have HR1 := Lib.hid hr1
  have HK1 := Lib.hid hk1
  have hh1 := HS.out.on hb1
  clear hb1 hr1 hk1 hw1
  by_cases hlt : 64 < n
  · have ho := of_one hh1 hc hn
    have hs : (sumS l).length = 32 := sum_len l
    have he : K = sumS l ++ zer 32 := by rw [← HK.out]; unfold keyL; rw [if_pos (by rw [← HL.out]; exact hlt)]
    have he2 : K = sumS l ++ (zer 64).drop (sumS l).length := by rw [he, hs]; rfl
    obtain ⟨Y, hY⟩ : ∃ Y, sumS l = Y := ⟨_, rfl⟩
    rw [hY] at ho hs he he2
    have HO := Lib.hid ho
    have IY := Lib.hid (id_iv Y hs)
    have YZ := Lib.hid (id_hz Y hs)
    have HY := Lib.hid hs
    have HE := Lib.hid he2
    clear ho hs he he2 hY hh1
    go_upto_region 4 with (first
      | (go_at_call 31; refine HO.out.mono ?_; rintro e w2 ⟨rfl, hb2⟩
         have hb2' := ((Below.refl w1.heap.size w1).alloc (Nat.le_refl _) (.cells #[.slice A n c] 22)).trans (hb2.mono (by simp))
         have HR2 := Lib.hid (HR1.out.below hb2' HR1.out.lt)
         have HK2 := Lib.hid (HK1.out.below hb2' HK1.out.lt)
         have HB2 := Lib.hid (HB1.out.trans (hb2'.mono HB1.out.size))
         clear hb2 hb2')
      | (refine wpList_store_row rfl 30 (.tmp 4) (.tmp 10) rfl w2.heap.size (cellsB Y).toArray rfl rfl 30 _ (Bw.new w2 (zer 32) 30) IY.out YZ.out (cellsB_ones _) ?_))
    generalize hw3 : World.setRow _ _ _ = w3
    have hb3 : Below w.heap.size w w3.drew := by
      rw [← hw3]
      exact (below_setRow (HB2.out.alloc HB2.out.size _) HB2.out.size _).drew
    have hy3 : Bw w3.drew w2.heap.size 30 Y := by
      rw [← hw3]
      exact (Bw.new w2 (zer 32) _).row
    have hr3 : Bw w3.drew w.heap.size 45 (zer 64) := by
      rw [← hw3]
      have := HR2.out.lt
      exact (HR2.out.alloc _).rowFar (by omega) _
    have hk3 : Bw w3.drew (w.heap.size + 1) 45 (zer 64) := by
      rw [← hw3]
      have := HK2.out.lt
      exact (HK2.out.alloc _).rowFar (by omega) _
    obtain ⟨w4, h4⟩ : ∃ w4, w3.drew = w4 := ⟨_, rfl⟩
    rw [h4] at hb3 hy3 hr3 hk3
    have HB4 := Lib.hid hb3
    have HY4 := Lib.hid (hy3.has HY.out.symm)
    have HR4 := Lib.hid hr3
    have HK4 := Lib.hid hk3
    have H4 := Lib.hid h4
    clear hb3 hy3 hr3 hk3 h4 hw3
    go_still_tail 2, (by kernel_rfl)
    change wpList _ _ _ _ _ w3.drew
    rw [H4.out]
    go_wp2_with (first
      | (refine wp_copyB rfl (.tmp 11) (.tmp 12) rfl Try.underlying22 sizeU8 (w.heap.size + 1) 64 64 45 (zer 64) Y rfl HK4.out rfl _ _ _ _ rfl HY4.out (by omega) (w.heap.size + 1) w4 (Below.refl _ _) (Nat.le_refl _) ?_; intro w5 hk5 hb5
         rw [← HE.out] at hk5
         have HK5 := Lib.hid hk5
         have HR5 := Lib.hid (HR4.out.below hb5 (by omega))
         have HB5 := Lib.hid (HB4.out.trans (hb5.mono (by omega)))
         clear hk5 hb5)
      | (refine wpList_load_row rfl 45 (.tmp 3) rfl (w.heap.size + 1) rfl 45 (cellsB K).toArray (0, 0) _ HK5.out Try.underlying45 rfl IV.out ?_)
      | (refine wpList_store_row rfl 45 (.tmp 2) (.tmp 17) rfl w.heap.size (cellsB K).toArray rfl rfl 45 _ HR5.out IV.out HZ.out (cellsB_ones _) ?_))
    refine bodyPost_ret (v := .agg (cellsB K).toArray) ?_ (by rfl) ?_
    · exact results_cell_row (p := 2) (ty := 45) rfl _ _ w.heap.size 45 (cellsB K).toArray _ _ rfl (setRow_heap _ _ _ _ 45 _ HR5.out) Try.underlying45 rfl IV.out
    · exact ⟨rfl, below_setRow HB5.out (Nat.le_refl _) _⟩
  · have he : K = l ++ (zer 64).drop l.length := by
      rw [← HK.out]
      unfold keyL
      rw [if_neg (by rw [← HL.out]; exact hlt)]
      unfold zer
      rw [List.drop_replicate]
    have HE := Lib.hid he
    have HH := Lib.hid hh1
    clear he hh1
    go_wp2_with (first
      | (refine wp_copyB rfl (.tmp 14) (.tmp 15) rfl Try.underlying22 sizeU8 (w.heap.size + 1) 64 64 45 (zer 64) l rfl HK1.out rfl _ _ _ _ rfl HH.out (by omega) (w.heap.size + 1) w1 (Below.refl _ _) (Nat.le_refl _) ?_; intro w5 hk5 hb5
         rw [← HE.out] at hk5
         have HK5 := Lib.hid hk5
         have HR5 := Lib.hid (HR1.out.below hb5 (by omega))
         have HB5 := Lib.hid (HB1.out.trans (hb5.mono (by omega)))
         clear hk5 hb5)
      | (refine wpList_load_row rfl 45 (.tmp 3) rfl (w.heap.size + 1) rfl 45 (cellsB K).toArray (0, 0) _ HK5.out Try.underlying45 rfl IV.out ?_)
      | (refine wpList_store_row rfl 45 (.tmp 2) (.tmp 17) rfl w.heap.size (cellsB K).toArray rfl rfl 45 _ HR5.out IV.out HZ.out (cellsB_ones _) ?_))
    refine bodyPost_ret (v := .agg (cellsB K).toArray) ?_ (by rfl) ?_
    · exact results_cell_row (p := 2) (ty := 45) rfl _ _ w.heap.size 45 (cellsB K).toArray _ _ rfl (setRow_heap _ _ _ _ 45 _ HR5.out) Try.underlying45 rfl IV.out
    · exact ⟨rfl, below_setRow HB5.out (Nat.le_refl _) _⟩
end Go.Proofs.Ytkpmfpbeidhcbaa
