/-
  Own work. The contract of the document's answer's Of.
-/
import Derived.Test.YtadagbkfemcgfaaRs
import Derived.Test.YtadagbkfemcgfaaOf
namespace Go.Proofs.Ytadagbkfemcgfaa
open Go.RowKit
set_option linter.unusedVariables false
set_option linter.unusedSimpArgs false

set_option maxRecDepth 100000 in
set_option maxHeartbeats 400000 in
theorem rof_any (A : Option Addr) (n c : Nat) (ls : List (List UInt8)) (w : World) (h : HasBB w w.heap.size A n ls) (hn : n ≤ 1073741824) (hlen : ls.flatten.length ≤ 1073741824) :
    Calls Try.prog 35 #[.slice A n c] w (RetID w (sumS ls.flatten)) := by
  have HS := Lib.hid h
  have HN := Lib.hid h.1
  clear h
  go_enter Try.func35, Try.ntmps35
  go_upto_region 1 with fail
  generalize hw1 : World.alloc _ _ = w1
  have hz : Bw w1 w.heap.size 23 (zer 32) := by rw [← hw1]; exact heap_alloc_new w _
  have hb : Below w.heap.size w w1 := by rw [← hw1]; exact (Below.refl _ _).alloc (Nat.le_refl _) _
  have HZ := Lib.hid hz
  have HB := Lib.hid hb
  clear hz hb hw1
  go_wp2_with fail
  go_loopw [3, 4] (fun s i wr => ∃ (A' : Option Addr) (n' c' k : Nat), s = .slice A' n' c' ∧ k ≤ n ∧ i = .int .i64 (k : Int) ∧ OwnB wr w1.heap.size (.slice A' n' c') (ls.take k).flatten ∧ Below w1.heap.size w1 wr) (fun _ i _ => n - (intOf i).toNat)
  case atStart => exact ⟨none, 0, 0, 0, rfl, by omega, rfl, OwnB.nil _ _, Below.refl _ _⟩
  case round =>
    obtain ⟨A', n', c', k, rfl, hk, rfl, hown, hbel⟩ := hrel
    by_cases hlt : k < n
    · obtain ⟨l, hl⟩ : ∃ l, ls[k]? = some l := ⟨_, List.getElem?_eq_getElem (by rw [← HN.out]; exact hlt)⟩
      obtain ⟨k0, o0, rfl, hk0, hc0⟩ := HS.out.2 (by omega)
      obtain ⟨Ai, ni, ci, hcell, hni, hhas⟩ := hc0 k l hl
      have hbw := HB.out.trans (hbel.mono HB.out.size)
      have hcw : wr.cell? ⟨k0, o0 + k, none⟩ = some (.slice Ai ni ci) := (hbw.cell (p := ⟨k0, o0 + k, none⟩) hk0).trans hcell
      have hsrc : HasB wr w.heap.size Ai ni l := hhas.below hbw
      have hsn := flat_snoc ls k l hl
      have hll : (ls.take k).flatten.length + l.length ≤ 1073741824 := by
        have := flat_len ls (k + 1)
        rw [hsn, List.length_append] at this
        omega
      have HSN := Lib.hid hsn
      have O := Lib.hid hown
      have B := Lib.hid hbel
      have SR := Lib.hid hsrc
      have HLL := Lib.hid hll
      clear hl hc0 hcell hhas hsn hsrc hown hbel hbw hll
      go_wp2_with (at_builtin; refine wp_app rfl (.tmp 11) (.tmp 15) rfl Try.underlying24 infoU8 w1.heap.size _ _ l rfl O.out _ _ _ _ rfl SR.out (by have := HLL.out; omega) B.out.size ?_; intro A5 n5 c5 w5 hown5 hg5 hb5)
      rw [← HSN.out] at hown5
      go_roundw
      case rel => exact ⟨A5, n5, c5, k + 1, rfl, by omega, by go_num, hown5, B.out.trans hb5⟩
      case measure => simp [intOf]; omega
    · obtain rfl : k = n := by omega
      rw [List.take_of_length_le (by rw [← HN.out]; exact Nat.le_refl _)] at hown
      have hn5 := hown.len
      have CS := rsum_any A' n' c' ls.flatten wr hown.has (by omega)
      have hz2 : Bw wr w.heap.size 23 (zer 32) := HZ.out.below hbel HZ.out.lt
      have hbw := HB.out.trans (hbel.mono HB.out.size)
      have hiv : (Try.prog.info? 23).map (·.size) = some (cellsB (sumS ls.flatten)).toArray.size := by rw [cellsB_size, sum_len]; exact infoID
      have hz3 : (cellsB (zer 32)).toArray.size = (cellsB (sumS ls.flatten)).toArray.size := by rw [cellsB_size, cellsB_size, sum_len, zer_len]
      have HIV := Lib.hid hiv
      have HZ3 := Lib.hid hz3
      have HZ2 := Lib.hid hz2
      have HBW := Lib.hid hbw
      have HCS := Lib.hid CS
      clear hown hbel hz2 hbw hiv hz3 CS hn5
      go_wp2_with (first
        | (go_at_call 63; refine HCS.out.mono ?_; rintro e w2 ⟨rfl, hb2⟩
           have hz4 : Bw w2 w.heap.size 23 (zer 32) := HZ2.out.below hb2 HZ2.out.lt
           have HZ4 := Lib.hid hz4
           have HB4 := Lib.hid hb2
           clear hz4 hb2)
        | (refine wpList_store_row rfl 23 (.tmp 2) (.tmp 18) rfl w.heap.size (cellsB (sumS ls.flatten)).toArray rfl rfl 23 _ HZ4.out HIV.out HZ3.out (cellsB_ones _) ?_))
      refine bodyPost_ret (v := .agg (cellsB (sumS ls.flatten)).toArray) ?_ (by rfl) ?_
      · exact results_cell_row (p := 2) (ty := 23) rfl _ _ w.heap.size 23 (cellsB (sumS ls.flatten)).toArray _ _ rfl (setRow_heap _ _ _ _ 23 _ HZ4.out) Try.underlying23 rfl HIV.out
      · exact ⟨rfl, below_setRow (HBW.out.trans (HB4.out.mono HBW.out.size)) (Nat.le_refl _) _⟩
end Go.Proofs.Ytadagbkfemcgfaa
