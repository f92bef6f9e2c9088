/-
  Own work. The contract of mac's begin.
-/
import Derived.Test.YtkpmfpbeidhcbaaMk
import Derived.Test.YtkpmfpbeidhcbaaId
namespace Go.Proofs.Ytkpmfpbeidhcbaa
open Go.RowKit
set_option linter.unusedVariables false
set_option linter.unusedSimpArgs false

theorem Bw.has {w : World} {g n : Nat} {t : TypeId} {l : List UInt8} (h : Bw w g t l) (hn : n = l.length) : HasB w w.heap.size (some ⟨g, 0, none⟩) n l :=
  ⟨hn, fun _ => ⟨g, 0, rfl, h.lt, fun i b hb => by rw [Nat.zero_add]; exact h.cell hb⟩⟩
theorem blk_iv (l : List UInt8) (hl : l.length = 64) : (Try.prog.info? 45).map (·.size) = some (cellsB l).toArray.size := by rw [cellsB_size, hl]; exact infoBlk
theorem blk_hz (l : List UInt8) (hl : l.length = 64) : (cellsB (List.replicate 64 0)).toArray.size = (cellsB l).toArray.size := by rw [cellsB_size, cellsB_size, hl]; rfl
theorem id_iv (l : List UInt8) (hl : l.length = 32) : (Try.prog.info? 30).map (·.size) = some (cellsB l).toArray.size := by rw [cellsB_size, hl]; exact infoID
theorem id_hz (l : List UInt8) (hl : l.length = 32) : (cellsB (zer 32)).toArray.size = (cellsB l).toArray.size := by rw [cellsB_size, cellsB_size, hl, zer_len]

set_option maxRecDepth 100000 in
set_option maxHeartbeats 400000 in
theorem begin_any (l : List UInt8) (w : World) (hl : l.length = 64) :
    Calls Try.prog 25 #[.agg (cellsB l).toArray] w (RetNew w (xorB 54 l)) := by
  have C1 : Calls Try.prog 32 #[.agg (cellsB l).toArray, .int .u8 54] (w.alloc (.cells (cellsB l).toArray 45)) (RetA (w.alloc (.cells (cellsB l).toArray 45)) (xorB 54 l)) := masked_any l 54 _ hl
  have hx : (xorB 54 l).length = 64 := by rw [xorB_len, hl]
  obtain ⟨X, hX⟩ : ∃ X, xorB 54 l = X := ⟨_, rfl⟩
  rw [hX] at C1 hx ⊢
  have IV := Lib.hid (blk_iv l hl)
  have IX := Lib.hid (blk_iv X hx)
  have HZ := Lib.hid (blk_hz X hx)
  have HX := Lib.hid hx
  have HC := Lib.hid C1
  clear C1 hX hl hx
  go_enter Try.func25, Try.ntmps25
  go_upto_region 2 with (first
    | (refine wpList_load_row rfl 45 (.tmp 1) rfl w.heap.size rfl 45 (cellsB l).toArray (0, 0) _ (heap_alloc_new w _) Try.underlying45 rfl IV.out ?_)
    | (go_at_call 32; refine HC.out.mono ?_; rintro e w1 ⟨rfl, hb1⟩
       have hb1' : Below w.heap.size w w1 := ((Below.refl _ _).alloc (Nat.le_refl _) _).trans (hb1.mono (by simp))
       have HB1 := Lib.hid hb1'
       clear hb1 hb1')
    | (refine wpList_store_row rfl 45 (.tmp 3) (.tmp 6) rfl w1.heap.size (cellsB X).toArray rfl rfl 45 _ (heap_alloc_new w1 _) IX.out HZ.out (cellsB_ones _) ?_))
  generalize hw2 : World.setRow _ _ _ = w2
  have hb2 : Below w.heap.size w w2 := by
    rw [← hw2]
    exact below_setRow (HB1.out.alloc HB1.out.size _) HB1.out.size _
  have hx2 : Bw w2 w1.heap.size 45 X := by
    rw [← hw2]
    exact Bw.row (Bw.new w1 (zer 64) _)
  have HB2 := Lib.hid hb2
  have HX2 := Lib.hid hx2
  clear hb2 hx2 hw2
  go_wp2_with (first
    | (go_at_call 33; refine (new_any _).mono ?_; rintro e w3 ⟨g, rfl, hg, hd, hb3⟩
       have hx3 := HX2.out.below hb3 HX2.out.lt
       have hs3 : Src w3 g (some ⟨w1.heap.size, 0, none⟩) 64 X := Src.of_has (hx3.has HX.out.symm) (Nat.le_refl _) (by intro k o e; simp only [Option.some.injEq, Addr.mk.injEq] at e; have := HX2.out.lt; omega)
       have hcw := write_any g 64 64 [] X _ w3 hd hs3 (Nat.le_refl _) (by rw [HX.out]; simp)
       rw [List.nil_append] at hcw
       have hg' := Nat.le_trans HB2.out.size hg
       have HCW := Lib.hid hcw
       have HB3 := Lib.hid (HB2.out.trans (hb3.mono HB2.out.size))
       have HG := Lib.hid hg'
       clear hd hb3 hx3 hs3 hcw hg hg')
    | (go_at_call 26; refine HCW.out.mono ?_; rintro e w4 ⟨rfl, hd4, hg4⟩
       have HD4 := Lib.hid hd4
       have HG4 := Lib.hid hg4
       clear hd4 hg4))
  go_ret
  exact ⟨g, rfl, HG.out, HD4.out, below_row HB3.out HG4.out HG.out HB3.out.size⟩
end Go.Proofs.Ytkpmfpbeidhcbaa
