/-
  Own work. Lists of byte slices in memory; the contract of sha's Of.
-/
import Derived.Test.YtadagbkfemcgfaaSm
namespace Go.Proofs.Ytadagbkfemcgfaa
open Go.RowKit
set_option linter.unusedVariables false
set_option linter.unusedSimpArgs false

/-- A slice of slices of bytes, whose cells and bytes lie below block B. -/
def HasBB (w : World) (B : Nat) (A : Option Addr) (n : Nat) (ls : List (List UInt8)) : Prop :=
  n = ls.length ∧ (0 < n → ∃ k o, A = some ⟨k, o, none⟩ ∧ k < B ∧ ∀ i l, ls[i]? = some l → ∃ Ai ni ci, w.cell? ⟨k, o + i, none⟩ = some (.slice Ai ni ci) ∧ ni ≤ ci ∧ HasB w B Ai ni l)
theorem HasBB.below {w w' : World} {B n : Nat} {A : Option Addr} {ls : List (List UInt8)} (h : HasBB w B A n ls) (hb : Below B w w') : HasBB w' B A n ls :=
  ⟨h.1, fun hn => by
    obtain ⟨k, o, e, hk, hc⟩ := h.2 hn
    refine ⟨k, o, e, hk, fun i l hi => ?_⟩
    obtain ⟨Ai, ni, ci, h1, h2, h3⟩ := hc i l hi
    exact ⟨Ai, ni, ci, (hb.cell (p := ⟨k, o + i, none⟩) hk).trans h1, h2, h3.below hb⟩⟩
theorem HasBB.more {w : World} {B B' n : Nat} {A : Option Addr} {ls : List (List UInt8)} (h : HasBB w B A n ls) (hB : B ≤ B') : HasBB w B' A n ls :=
  ⟨h.1, fun hn => by
    obtain ⟨k, o, e, hk, hc⟩ := h.2 hn
    refine ⟨k, o, e, by omega, fun i l hi => ?_⟩
    obtain ⟨Ai, ni, ci, h1, h2, h3⟩ := hc i l hi
    exact ⟨Ai, ni, ci, h1, h2, h3.more hB⟩⟩
theorem HasBB.on {w w' : World} {n : Nat} {A : Option Addr} {ls : List (List UInt8)} (h : HasBB w w.heap.size A n ls) (hb : Below w.heap.size w w') : HasBB w' w'.heap.size A n ls := (h.below hb).more hb.size
theorem flat_len (ls : List (List UInt8)) (k : Nat) : (ls.take k).flatten.length ≤ ls.flatten.length := by
  conv => rhs; rw [← List.take_append_drop k ls, List.flatten_append, List.length_append]
  omega
theorem flat_snoc (ls : List (List UInt8)) (k : Nat) (l : List UInt8) (h : ls[k]? = some l) : (ls.take (k + 1)).flatten = (ls.take k).flatten ++ l := by
  obtain ⟨hk, rfl⟩ := List.getElem?_eq_some_iff.1 h
  rw [List.take_succ_eq_append_getElem hk, List.flatten_append]
  simp

set_option maxRecDepth 100000 in
set_option maxHeartbeats 400000 in
theorem of_any (A : Option Addr) (n c : Nat) (ls : List (List UInt8)) (w : World) (h : HasBB w w.heap.size A n ls) (hn : n ≤ 1073741824) (hlen : ls.flatten.length ≤ 4294967296) :
    Calls Try.prog 61 #[.slice A n c] w (RetID w (sumS ls.flatten)) := by
  have HS := Lib.hid h
  have HN := Lib.hid h.1
  clear h
  go_enter Try.func61, Try.ntmps61
  go_wp2_with (first
    | (go_at_call 86; refine (new_any _).mono ?_; rintro e w1 ⟨g, rfl, hg, hd, hb⟩
       have hg2 : w.heap.size < g := by simp at hg; omega
       have hw1 : Below w.heap.size w w1 := ((Below.refl _ _).alloc (Nat.le_refl _) _).trans (hb.mono (by simp))
       have hz : Bw w1 w.heap.size 23 (zer 32) := (hb.block _ (by simp)).trans (heap_alloc_new w _)
       have HD := Lib.hid hd
       have HB := Lib.hid hw1
       have HZ := Lib.hid hz
       clear hg hb hd hw1 hz))
  go_loopw [9] (fun i wr => ∃ k : Nat, k ≤ n ∧ i = .int .i64 (k : Int) ∧ HashD wr g (ls.take k).flatten ∧ Bw wr w.heap.size 23 (zer 32) ∧ Below w.heap.size w wr) (fun i _ => n - (intOf i).toNat)
  case atStart => exact ⟨0, by omega, rfl, HD.out, HZ.out, HB.out⟩
  case round =>
    obtain ⟨k, hk, rfl, hD, hZ, hbel⟩ := hrel
    by_cases hlt : k < n
    · obtain ⟨l, hl⟩ : ∃ l, ls[k]? = some l := ⟨_, List.getElem?_eq_getElem (by rw [← HN.out]; exact hlt)⟩
      obtain ⟨k0, o0, rfl, hk0, hc0⟩ := HS.out.2 (by omega)
      obtain ⟨Ai, ni, ci, hcell, hni, hhas⟩ := hc0 k l hl
      have hcw : wr.cell? ⟨k0, o0 + k, none⟩ = some (.slice Ai ni ci) := (hbel.cell (p := ⟨k0, o0 + k, none⟩) hk0).trans hcell
      have hsrc : Src wr g Ai ni l := Src.of_below (hhas.below hbel) (by omega) hD.lt
      have hsn := flat_snoc ls k l hl
      have hll : (ls.take k).flatten.length + l.length ≤ 4294967296 := by
        have := flat_len ls (k + 1)
        rw [hsn, List.length_append] at this
        omega
      have CW := write_any g ni ci (ls.take k).flatten l Ai wr hD hsrc hni hll
      rw [← hsn] at CW
      have HSN := Lib.hid hsn
      have HZ2 := Lib.hid hZ
      have HB2 := Lib.hid hbel
      clear hl hc0 hcell hhas hsn hsrc hD hZ hbel hll
      go_wp2_with (first
        | (go_at_call 87; refine CW.mono ?_; rintro e w2 ⟨rfl, hd2, hg2'⟩
           have HD2 := Lib.hid hd2
           have HG2 := Lib.hid hg2'
           clear hd2 hg2'))
      go_roundw
      case rel => exact ⟨k + 1, by omega, by go_num, HD2.out, (HG2.out.block _ HZ2.out.lt (by intro e; injection e; omega)).trans HZ2.out, below_row HB2.out HG2.out (by omega) HB2.out.size⟩
      case measure => simp [intOf]; omega
    · obtain rfl : k = n := by omega
      have CS := sum_any g (ls.take k).flatten wr hD (Nat.le_trans (flat_len ls k) hlen)
      rw [List.take_of_length_le (by rw [← HN.out]; exact Nat.le_refl _)] at CS
      have HZ2 := Lib.hid hZ
      have HB2 := Lib.hid hbel
      have hiv : (Try.prog.info? 23).map (·.size) = some (cellsB (sumS ls.flatten)).toArray.size := by rw [cellsB_size, sum_len]; exact infoID
      have hz3 : (cellsB (zer 32)).toArray.size = (cellsB (sumS ls.flatten)).toArray.size := by rw [cellsB_size, cellsB_size, sum_len, zer_len]
      have HIV := Lib.hid hiv
      have HZ3 := Lib.hid hz3
      clear hD hZ hbel hiv hz3
      go_wp2_with (first
        | (go_at_call 88; refine CS.mono ?_; rintro e w2 ⟨rfl, hb2⟩
           have hz2 : Bw w2 w.heap.size 23 (zer 32) := HZ2.out.below hb2 HZ2.out.lt
           have HZ4 := Lib.hid hz2
           have HB4 := Lib.hid hb2
           clear hz2 hb2)
        | (refine wpList_store_row rfl 23 (.tmp 2) (.tmp 18) rfl w.heap.size (cellsB (sumS ls.flatten)).toArray rfl rfl 23 _ HZ4.out HIV.out HZ3.out (cellsB_ones _) ?_))
      refine bodyPost_ret (v := .agg (cellsB (sumS ls.flatten)).toArray) ?_ (by rfl) ?_
      · exact results_cell_row (p := 2) (ty := 23) rfl _ _ w.heap.size 23 (cellsB (sumS ls.flatten)).toArray _ _ rfl (setRow_heap _ _ _ _ 23 _ HZ4.out) Try.underlying23 rfl HIV.out
      · exact ⟨rfl, below_setRow (HB2.out.trans (HB4.out.mono HB2.out.size)) (Nat.le_refl _) _⟩
end Go.Proofs.Ytadagbkfemcgfaa
