/-
  What a nil hash, and a zero one, answers; the law ShaNone walked.
-/
import Derived.Test.YtlgjoeabogbknaaBg
namespace Go.Proofs.Ytlgjoeabogbknaa
open Go.RowKit
set_option linter.unusedVariables false
set_option linter.unusedSimpArgs false

def RetTrue (w : World) (e : Ending) (w' : World) : Prop := e = .returned (.bool true) ∧ Below w.heap.size w w'
/-- A pointer to a hash that is none. -/
def NoneP (w : World) (p : Option Addr) : Prop := p = none ∨ ∃ g, p = some ⟨g, 0, none⟩ ∧ HashW w g (List.replicate 8 0) (List.replicate 64 0) 0
theorem NoneP.below {w w' : World} {p : Option Addr} (h : NoneP w p) (hb : Below w.heap.size w w') : NoneP w' p := by
  rcases h with h | ⟨g, h1, h2⟩
  · exact .inl h
  · exact .inr ⟨g, h1, h2.kept (hb.block g h2.lt)⟩
theorem isNone_any (p : Option Addr) (w : World) (h : NoneP w p) : Calls Try.prog 26 #[.pointer p] w fun e w' => e = .returned (.bool true) ∧ w = w' := by
  rcases h with rfl | ⟨g, rfl, h2⟩
  · exact isNone_nil w
  · exact isNone_zero g w h2
theorem write_none (p : Option Addr) (v : Value) (w : World) (h : NoneP w p) : Calls Try.prog 13 #[.pointer p, v] w fun e w' => e = .returned (.tuple #[]) ∧ w = w' := by
  have CN := isNone_any p w h
  clear h
  go_enter Try.func13, Try.ntmps13
  go_wp2_with (go_at_call 26; refine CN.mono ?_; rintro e w1 ⟨rfl, rfl⟩)
  exact bodyPost_ret (v := .tuple #[]) (by simp [results, Try.results13, go_sem]) rfl ⟨rfl, rfl⟩
theorem len_none (p : Option Addr) (w : World) (h : NoneP w p) : Calls Try.prog 17 #[.pointer p] w fun e w' => e = .returned (.int .u64 0) ∧ w = w' := by
  have CN := isNone_any p w h
  clear h
  go_enter Try.func17, Try.ntmps17
  go_wp2_with (go_at_call 26; refine CN.mono ?_; rintro e w1 ⟨rfl, rfl⟩)
  go_ret
  exact ⟨rfl, rfl⟩
theorem copy_none (p : Option Addr) (w : World) (h : NoneP w p) : Calls Try.prog 20 #[.pointer p] w fun e w' => e = .returned (.pointer none) ∧ w = w' := by
  have CN := isNone_any p w h
  clear h
  go_enter Try.func20, Try.ntmps20
  go_wp2_with (go_at_call 26; refine CN.mono ?_; rintro e w1 ⟨rfl, rfl⟩)
  go_ret
  exact ⟨rfl, rfl⟩
theorem builtID : Try.prog.built 31 [] = some (cellsB (zer 32)).toArray := by kernel_rfl
set_option maxRecDepth 100000 in
theorem sum_none (p : Option Addr) (w : World) (h : NoneP w p) : Calls Try.prog 16 #[.pointer p] w (RetID w (zer 32)) := by
  have hb := (Below.refl w.heap.size w).alloc (Nat.le_refl _) (.cells (cellsB (zer 32)).toArray 31)
  have CN := isNone_any p _ (h.below hb)
  have HB := Lib.hid hb
  have IV : Hid ((Try.prog.info? 31).map (·.size) = some (cellsB (zer 32)).toArray.size) := Lib.hid (by rw [cellsB_size, zer_len]; exact infoID)
  clear h hb
  go_enter Try.func16, Try.ntmps16
  go_wp2_with (first
    | (go_at_call 26; refine CN.mono ?_; rintro e w1 ⟨rfl, rfl⟩)
    | (refine wpList_buildG rfl 31 rfl (cellsB (zer 32)).toArray builtID ?_)
    | (refine wpList_store_row rfl 31 (.tmp 2) (.tmp 10) rfl w.heap.size (cellsB (zer 32)).toArray rfl rfl 31 (cellsB (zer 32)).toArray (heap_alloc_new w _) IV.out rfl (cellsB_ones _) ?_))
  refine bodyPost_ret (v := .agg (cellsB (zer 32)).toArray) ?_ (by rfl) ?_
  · exact results_cell_row (p := 2) (ty := 31) rfl _ _ w.heap.size 31 (cellsB (zer 32)).toArray _ _ rfl (setRow_heap _ _ _ _ 31 _ (heap_alloc_new w _)) Try.underlying31 rfl IV.out
  · exact ⟨rfl, below_setRow HB.out (Nat.le_refl _) _⟩

set_option maxRecDepth 100000 in
set_option maxHeartbeats 400000 in
theorem none_law (w : World) : Calls Try.prog 8 #[] w (RetTrue w) := by
  have hz : HashW (w.alloc (.cells (hashV (List.replicate 8 0) (List.replicate 64 0) 0).toArray 54)) w.heap.size (List.replicate 8 0) (List.replicate 64 0) 0 := ⟨heap_alloc_new w _, by simp, small_zero 8, by simp⟩
  have hb := (Below.refl w.heap.size w).alloc (Nat.le_refl _) (.cells (hashV (List.replicate 8 0) (List.replicate 64 0) 0).toArray 54)
  go_enter Try.func8, Try.ntmps8
  go_upto_region 3 with (refine wpList_buildG rfl 54 rfl _ builtHash ?_)
  generalize hw1 : World.alloc _ _ = w1
  have N1 : NoneP w1 (some ⟨w.heap.size, 0, none⟩) := by rw [← hw1]; exact .inr ⟨_, rfl, hz⟩
  have B1 : Below w.heap.size w w1 := by rw [← hw1]; exact hb
  obtain ⟨G, hG⟩ : ∃ G, w.heap.size = G := ⟨_, rfl⟩
  rw [hG] at N1 ⊢
  have M1 := Lib.hid N1
  have BB1 := Lib.hid B1
  clear N1 B1 hw1 hG hz hb
  go_upto_region 4 with (go_at_call 13; refine (write_none none _ _ (.inl rfl)).mono ?_; rintro e w2 ⟨rfl, rfl⟩)
  generalize hw2 : World.alloc _ _ = w2
  have b2 : Below w1.heap.size w1 w2 := by rw [← hw2]; exact (Below.refl _ _).alloc (Nat.le_refl _) _
  have N2 := M1.out.below b2
  have B2 := BB1.out.trans (b2.mono BB1.out.size)
  have M2 := Lib.hid N2
  have BB2 := Lib.hid B2
  clear hw2 b2 N2 B2 M1 BB1
  go_upto_region 5 with (go_at_call 13; refine (write_none (some ⟨G, 0, none⟩) _ _ (M2.out.below ((Below.refl _ _).alloc (Nat.le_refl _) _))).mono ?_; rintro e w3 ⟨rfl, rfl⟩)
  generalize hw3 : World.alloc _ _ = w3
  have b3 : Below w2.heap.size w2 w3 := by rw [← hw3]; exact (Below.refl _ _).alloc (Nat.le_refl _) _
  have N3 := M2.out.below b3
  have B3 := BB2.out.trans (b3.mono BB2.out.size)
  have M3 := Lib.hid N3
  have BB3 := Lib.hid B3
  clear hw3 b3 N3 B3 M2 BB2
  go_wp2_with (first
    | (go_at_call 9; refine (begun_any _).mono ?_; rintro e w4 ⟨rfl, b4⟩
       have N4 := M3.out.below b4
       have B4 := BB3.out.trans (b4.mono BB3.out.size)
       have M4 := Lib.hid N4
       have BB4 := Lib.hid B4
       clear b4 N4 B4)
    | (go_at_call_of 16 (Value.pointer none); refine (sum_none none _ (.inl rfl)).mono ?_; rintro e w5 ⟨rfl, b5⟩
       have N5 := M4.out.below b5
       have B5 := BB4.out.trans (b5.mono BB4.out.size)
       have M5 := Lib.hid N5
       have BB5 := Lib.hid B5
       clear b5 N5 B5)
    | (go_at_call 16; refine (sum_none (some ⟨G, 0, none⟩) _ M5.out).mono ?_; rintro e w6 ⟨rfl, b6⟩
       have N6 := M5.out.below b6
       have B6 := BB5.out.trans (b6.mono BB5.out.size)
       have M6 := Lib.hid N6
       have BB6 := Lib.hid B6
       clear b6 N6 B6)
    | (refine wpList_buildG rfl 31 rfl (cellsB (zer 32)).toArray builtID ?_)
    | (refine wpList_eqlG rfl 31 31 (.tmp 14) (.tmp 15) rfl (.agg (cellsB (zer 32)).toArray) (.agg (cellsB (zer 32)).toArray) true rfl rfl (guard_id _ _ _ _ _) (eql_id_same (zer 32) (zer_len 32) _) ?_)
    | (refine wpList_eqlG rfl 31 31 (.tmp 20) (.tmp 21) rfl (.agg (cellsB (zer 32)).toArray) (.agg (cellsB (zer 32)).toArray) true rfl rfl (guard_id _ _ _ _ _) (eql_id_same (zer 32) (zer_len 32) _) ?_)
    | (go_at_call_of 17 (Value.pointer none); refine (len_none none _ (.inl rfl)).mono ?_; rintro e w7 ⟨rfl, rfl⟩)
    | (go_at_call 17; refine (len_none (some ⟨G, 0, none⟩) _ M6.out).mono ?_; rintro e w7 ⟨rfl, rfl⟩)
    | (go_at_call_of 20 (Value.pointer none); refine (copy_none none _ (.inl rfl)).mono ?_; rintro e w7 ⟨rfl, rfl⟩)
    | (go_at_call 20; refine (copy_none (some ⟨G, 0, none⟩) _ M6.out).mono ?_; rintro e w7 ⟨rfl, rfl⟩))
  go_ret
  exact ⟨rfl, BB6.out⟩
end Go.Proofs.Ytlgjoeabogbknaa
