/-
  Own work. The contract of mac's end.
-/
import Derived.Test.YtkpmfpbeidhcbaaBn
import Derived.Test.YtkpmfpbeidhcbaaO1
import Derived.StillTailTactics
namespace Go.Proofs.Ytkpmfpbeidhcbaa
open Go.RowKit
set_option linter.unusedVariables false
set_option linter.unusedSimpArgs false

theorem bw_second (w : World) (a b : List UInt8) (t u : TypeId) : Bw ((w.alloc (.cells (cellsB a).toArray t)).alloc (.cells (cellsB b).toArray u)) (w.heap.size + 1) u b := by
  have := Bw.new (w.alloc (.cells (cellsB a).toArray t)) b u
  simpa using this

set_option maxRecDepth 100000 in
set_option maxHeartbeats 400000 in
theorem end_any (l D : List UInt8) (g : Nat) (w : World) (hl : l.length = 64) (hd : HashD w g D) (hlen : D.length ≤ 4294967296) :
    Calls Try.prog 28 #[.agg (cellsB l).toArray, .pointer (some ⟨g, 0, none⟩)] w (RetID w (sumS (xorB 92 l ++ sumS D))) := by
  have C1 : ∀ W, Calls Try.prog 32 #[.agg (cellsB l).toArray, .int .u8 92] W (RetA W (xorB 92 l)) := fun W => masked_any l 92 W hl
  have C2 : ∀ W, Below w.heap.size w W → Calls Try.prog 37 #[.pointer (some ⟨g, 0, none⟩)] W (RetID W (sumS D)) := fun W hb => sum_any g D W (hd.below hb hd.lt) hlen
  have hx : (xorB 92 l).length = 64 := by rw [xorB_len, hl]
  have hs : (sumS D).length = 32 := sum_len D
  have ho : (sumS (xorB 92 l ++ sumS D)).length = 32 := sum_len _
  generalize xorB 92 l = X at C1 hx ho ⊢
  generalize sumS D = Y at C2 hs ho ⊢
  have e2 : ∀ W, HasB W W.heap.size (some ⟨g, 0, none⟩) 0 [] := fun W => HasB.nil _ _ _
  have IV := Lib.hid (blk_iv l hl)
  have IX := Lib.hid (blk_iv X hx)
  have XZ := Lib.hid (blk_hz X hx)
  have IY := Lib.hid (id_iv Y hs)
  have YZ := Lib.hid (id_hz Y hs)
  have IO := Lib.hid (id_iv _ ho)
  have OZ := Lib.hid (id_hz _ ho)
  have HX := Lib.hid hx
  have HS := Lib.hid hs
  have HC1 := Lib.hid C1
  have HC2 := Lib.hid C2
  clear C1 C2 hl hx hs ho hd e2
  go_enter Try.func28, Try.ntmps28
  go_upto_region 2 with (first
    | (refine wpList_load_row rfl 45 (.tmp 2) rfl w.heap.size rfl 45 (cellsB l).toArray (0, 0) _ ((Bw.new w l _).alloc _) Try.underlying45 rfl IV.out ?_)
    | (go_at_call 32; refine (HC1.out _).mono ?_; rintro e w1 ⟨rfl, hb1⟩
       have hz0 := bw_second w l (zer 32) 45 30
       have hz1 := hz0.below hb1 hz0.lt
       have hb1' : Below w.heap.size w w1 := (((Below.refl _ _).alloc (Nat.le_refl _) _).alloc (by simp) _).trans (hb1.mono (by simp; omega))
       have HZ1 := Lib.hid hz1
       have HB1 := Lib.hid hb1'
       clear hz0 hz1 hb1 hb1')
    | (go_at_call 37; refine (HC2.out _ HB1.out).mono ?_; rintro e w2 ⟨rfl, hb2⟩
       have HZ2 := Lib.hid (HZ1.out.below hb2 HZ1.out.lt)
       have HB2 := Lib.hid (HB1.out.trans (hb2.mono HB1.out.size))
       clear hb2)
    | (refine wpList_store_row rfl 45 (.tmp 5) (.tmp 8) rfl w2.heap.size (cellsB X).toArray rfl rfl 45 _ ((Bw.new w2 (zer 64) 45).alloc _) IX.out XZ.out (cellsB_ones _) ?_)
    | (refine wpList_store_row rfl 30 (.tmp 6) (.tmp 10) rfl (w2.heap.size + 1) (cellsB Y).toArray rfl rfl 30 _ ((bw_second w2 (zer 64) (zer 32) 45 30).rowFar (Nat.succ_ne_self _) _) IY.out YZ.out (cellsB_ones _) ?_))
  generalize hw3 : World.setRow (World.setRow _ _ _) _ _ = w3
  have hb3 : Below w.heap.size w w3 := by
    rw [← hw3]
    have := HB2.out.size
    exact below_setRow (below_setRow ((HB2.out.alloc this _).alloc (by simp; omega) _) this _) (by omega) _
  have hx3 : Bw w3 w2.heap.size 45 X := by
    rw [← hw3]
    exact (Bw.row ((Bw.new w2 (zer 64) 45).alloc _)).rowFar (by omega) _
  have hy3 : Bw w3 (w2.heap.size + 1) 30 Y := by
    rw [← hw3]
    exact ((bw_second w2 (zer 64) (zer 32) 45 30).rowFar (Nat.succ_ne_self _) _).row
  have hz3 : Bw w3 (w.heap.size + 1) 30 (zer 32) := by
    rw [← hw3]
    have hlt := HZ2.out.lt
    exact (((HZ2.out.alloc _).alloc _).rowFar (by omega) _).rowFar (by omega) _
  have hb4 : Below w.heap.size w w3.drew := hb3.drew
  have hx4 : Bw w3.drew w2.heap.size 45 X := hx3
  have hy4 : Bw w3.drew (w2.heap.size + 1) 30 Y := hy3
  have hz4 : Bw w3.drew (w.heap.size + 1) 30 (zer 32) := hz3
  obtain ⟨w4, h4⟩ : ∃ w4, w3.drew = w4 := ⟨_, rfl⟩
  rw [h4] at hb4 hx4 hy4 hz4
  have O4 := of_two (hx4.has HX.out.symm) (hy4.has HS.out.symm) (Nat.le_refl 64) (Nat.le_refl 32) (by omega) (by omega)
  have HO4 := Lib.hid O4
  have HZ4 := Lib.hid hz4
  have HB4 := Lib.hid hb4
  have H4 := Lib.hid h4
  clear hx3 hy3 hw3 hb3 hz3 hx4 hy4 O4 hz4 hb4 h4
  go_still_tail 2, (by kernel_rfl)
  change wpList _ _ _ _ _ w3.drew
  rw [H4.out]
  go_wp2_with (first
    | (go_at_call 31; refine HO4.out.mono ?_; rintro e w5 ⟨rfl, hb5⟩
       have hb5' := ((Below.refl w4.heap.size w4).alloc (Nat.le_refl _) (.cells #[.slice (some ⟨w2.heap.size, 0, none⟩) 64 64, .slice (some ⟨w2.heap.size + 1, 0, none⟩) 32 32] 22)).trans (hb5.mono (by simp))
       have HZ5 := Lib.hid (HZ4.out.below hb5' HZ4.out.lt)
       have HB5 := Lib.hid (HB4.out.trans (hb5'.mono HB4.out.size))
       clear hb5 hb5')
    | (refine wpList_store_row rfl 30 (.tmp 4) (.tmp 14) rfl (w.heap.size + 1) (cellsB (sumS (X ++ Y))).toArray rfl rfl 30 _ HZ5.out IO.out OZ.out (cellsB_ones _) ?_))
  refine bodyPost_ret (v := .agg (cellsB (sumS (X ++ Y))).toArray) ?_ (by rfl) ?_
  · exact results_cell_row (p := 4) (ty := 30) rfl _ _ (w.heap.size + 1) 30 (cellsB (sumS (X ++ Y))).toArray _ _ rfl (setRow_heap _ _ _ _ 30 _ HZ5.out) Try.underlying30 rfl IO.out
  · exact ⟨rfl, below_setRow HB5.out (by omega) _⟩
end Go.Proofs.Ytkpmfpbeidhcbaa
