/-
  Own work. What every statement of mac asks first.
-/
import Derived.Test.YtkpmfpbeidhcbaaEl
import Derived.Test.YtkpmfpbeidhcbaaKm
namespace Go.Proofs.Ytkpmfpbeidhcbaa
open Go.RowKit
set_option linter.unusedVariables false
set_option linter.unusedSimpArgs false
set_option maxRecDepth 100000 in
set_option maxHeartbeats 400000 in
theorem begun_any (w : World) : Calls Try.prog 8 #[] w (RetTrue w) := by
  have kc := fun (w : World) (C : Array Value) (n c : Nat) => Lib.run_convert_bytes_const (P := Try.prog) w 22 5 C n c Try.underlying22 Try.underlying5
  go_enter Try.func8, Try.ntmps8
  go_wp2_with (first
    | (at_make; refine wp_mk _ rfl _ _ rfl Try.underlying22 infoU8 w.heap.size _ _ _ _ 20 rfl rfl rfl rfl (by omega) (Nat.le_refl _) ?_; intro w1 hown1 hb1))
  have O1 := Lib.hid hown1
  have B1 := Lib.hid hb1
  clear hown1 hb1
  go_loopw [2] (fun x wr => ∃ (j : Nat) (l : List UInt8), j ≤ 20 ∧ x = .int .i64 (j : Int) ∧ l.length = 20 ∧ l.take j = List.replicate j 11 ∧ OwnB wr w.heap.size (.slice (some ⟨w.heap.size, 0, none⟩) 20 20) l ∧ Below w.heap.size w wr) (fun x _ => 20 - (intOf x).toNat)
  case atStart => exact ⟨0, List.replicate 20 0, by omega, rfl, rfl, rfl, O1.out, B1.out⟩
  case round =>
    obtain ⟨j, l, hj, rfl, hl, ht, hown, hbel⟩ := hrel
    by_cases hlt : j < 20
    · obtain ⟨g, e, _, _, hcell⟩ := hown.head (by omega)
      simp only [Option.some.injEq, Addr.mk.injEq, and_true] at e
      subst e
      obtain ⟨y, hy⟩ : ∃ y, l[j]? = some y := ⟨_, List.getElem?_eq_getElem (by omega)⟩
      have cc := hcell j y hy
      have ff := hown.frozen j
      have O := Lib.hid hown
      have HB := Lib.hid hbel
      have HL := Lib.hid hl
      have HT := Lib.hid ht
      clear hown hbel hcell hy hl ht
      go_wp2_with fail
      go_roundw
      case rel => exact ⟨j + 1, l.set j 11, by omega, by go_num, by rw [List.length_set]; exact HL.out, by
        have := HL.out
        rw [List.take_succ_eq_append_getElem (by rw [List.length_set]; omega), List.getElem_set_self, List.take_set_of_le (Nat.le_refl _), HT.out, List.replicate_succ'], O.out.set_ rfl, HB.out.setCell (p := ⟨w.heap.size, j, none⟩) (Nat.le_refl _) _⟩
      case measure => simp [intOf]; omega
    · obtain rfl : j = 20 := by omega
      rw [List.take_of_length_le (by omega)] at ht
      subst ht
      have IL := macS_len keyB hiL
      have I2 := hi_sum
      have CR : Calls Try.prog 15 #[.slice (some ⟨w.heap.size, 0, none⟩) 20 20, .slice (some ⟨wr.heap.size, 0, none⟩) 8 8] (wr.alloc (.cells (cellsB hiL).toArray 5 (8, 9))) (RetID (wr.alloc (.cells (cellsB hiL).toArray 5 (8, 9))) (macS keyB hiL)) :=
        raw_any _ _ 20 20 8 8 keyB hiL _ ((hown.has.alloc (Nat.le_refl _) _).more (by simp)) ((HasB.lit wr hiL 5 (8, 9)).more (by simp)) (by omega) (by omega) (by omega) (by omega)
      generalize macS keyB hiL = I at IL I2 CR
      have I0 : I[0]? = some (176 : UInt8) := by
        have := congrArg (·[0]?) I2
        simpa using this
      have I1 : I[1]? = some (52 : UInt8) := by
        have := congrArg (·[1]?) I2
        simpa using this
      have hb2 : Below w.heap.size w (wr.alloc (.cells (cellsB hiL).toArray 5 (8, 9))) := hbel.alloc hbel.size _
      have HCR := Lib.hid CR
      have HB2 := Lib.hid hb2
      have HI0 := Lib.hid I0
      have HI1 := Lib.hid I1
      have IV := Lib.hid (id_iv I IL)
      have IZ := Lib.hid (id_hz I IL)
      clear IL I2 CR I0 I1 hb2 hown hbel O1 B1 hl hj hlt
      go_upto_region 7 with (first
        | (go_at_call 15; refine HCR.out.mono ?_; rintro e w4 ⟨rfl, hb4⟩
           have HB4 := Lib.hid (HB2.out.trans (hb4.mono HB2.out.size))
           clear hb4)
        | (refine wpList_store_row rfl 30 (.tmp 3) (.tmp 15) rfl w4.heap.size (cellsB I).toArray rfl rfl 30 _ (heap_alloc_new w4 _) IV.out IZ.out (cellsB_ones _) ?_))
      generalize hw5 : World.setRow _ _ _ = w5
      have R5 : Bw w5 w4.heap.size 30 I := by rw [← hw5]; exact setRow_heap _ _ _ _ 30 _ (heap_alloc_new w4 _)
      have B5 : Below w.heap.size w w5 := by
        rw [← hw5]
        exact below_setRow (HB4.out.alloc HB4.out.size _) HB4.out.size _
      obtain ⟨x0, hx⟩ : ∃ x0, w4.heap.size = x0 := ⟨_, rfl⟩
      rw [hx] at R5 ⊢
      have c0 := R5.cell HI0.out
      have c1 := R5.cell HI1.out
      have E5 := Lib.hid (equal_any none none 0 0 0 0 [] [] w5 (HasB.nil _ _ _) (HasB.nil _ _ _) (by omega) (by omega))
      have HB5 := Lib.hid B5
      clear hw5 hx R5 B5
      go_wp2_with (first
        | (go_at_call 21; refine E6.out.mono ?_; rintro e w7 ⟨rfl, hb7⟩
           have HB7 := Lib.hid (HB6.out.trans (hb7.mono HB6.out.size))
           clear hb7)
        | (go_at_call 21; refine E5.out.mono ?_; rintro e w6 ⟨rfl, hb6⟩
           have hb6' := HB5.out.trans (hb6.mono HB5.out.size)
           have HB6 := Lib.hid (hb6'.alloc hb6'.size (.cells #[.int .u8 0] 5))
           have E6 := Lib.hid (equal_any none (some ⟨w6.heap.size, 0, none⟩) 0 0 1 1 [] [0] (w6.alloc (.cells #[.int .u8 0] 5)) (HasB.nil _ _ _) ((HasB.one w6 0 0 5 rfl).more (by simp)) (by omega) (by omega))
           clear hb6 hb6'))
      go_ret
      exact ⟨rfl, HB7.out⟩
end Go.Proofs.Ytkpmfpbeidhcbaa
