/-
  Own work. The statements of layer 6: JournalNone.
-/
import Derived.Test.YtkbbpkbchniddaaNn7
namespace Go.Proofs.Ytkbbpkbchniddaa
open Go.RowKit Go.Maps
set_option linter.unusedVariables false
set_option linter.unusedSimpArgs false

set_option maxRecDepth 100000 in
set_option maxHeartbeats 4000000 in
theorem none_law6 (Z : DK) (w : World) : Calls Try.prog 6 #[] w (RetTrue w) := by
  have CB := Lib.hid (fun W => begun6_any Z W)
  have C40 : Hid (∀ b W, Below b.heap.size b W → Calls Try.prog 16 #[.int .i64 40] W fun e W' => ∃ g, e = .returned (.pointer (some ⟨g, 0, none⟩)) ∧ OnD Z b W' g 40 (newM 40)) := Lib.hid (fun b W hb => new_up Z b W hb 40 (by omega) (by omega))
  have C32 : Hid (∀ b W, Below b.heap.size b W → Calls Try.prog 16 #[.int .i64 32] W fun e W' => ∃ g, e = .returned (.pointer (some ⟨g, 0, none⟩)) ∧ OnD Z b W' g 32 (newM 32)) := Lib.hid (fun b W hb => new_up Z b W hb 32 (by omega) (by omega))
  have CO : Hid (∀ b gd W, OnD Z b W gd 40 (newM 40) → Calls Try.prog 18 #[.pointer (some ⟨gd, 0, none⟩)] W fun en W' => en = .returned (.tuple #[.pointer none, .int .i64 5]) ∧ OnD Z b W' gd 40 (newM 40)) := Lib.hid (fun b gd W a => open_new a)
  have CFo : Hid (∀ b gd W, OnD Z b W gd 32 (newM 32) → Calls Try.prog 17 #[.pointer (some ⟨gd, 0, none⟩), .int .i64 22] W fun en W' => en = .returned (.int .i64 0) ∧ Below b.heap.size b W') := Lib.hid (fun b gd W a => format_ok a)
  have CFn : Hid (∀ b gd W, OnD Z b W gd 32 (newM 32) → Calls Try.prog 17 #[.pointer (some ⟨gd, 0, none⟩), .int .i64 23] W (RetW W (.int .i64 1))) := Lib.hid (fun b gd W a => format_no a)
  have CFx : Hid (∀ W, Calls Try.prog 17 #[.pointer none, .int .i64 8] W (RetW W (.int .i64 1))) := Lib.hid (fun W => wfits_no 8 (fits_nil W))
  obtain ⟨w1, hw1⟩ : ∃ w1, w.alloc (.cells #[.pointer none, .int .i64 0, .int .u64 0, .int .u64 0, .int .u32 0, .int .u32 0, .int .i64 0, .int .i64 0, .map none] 65) = w1 := ⟨_, rfl⟩
  have hb1 : Below w.heap.size w w1 := by rw [← hw1]; exact (Below.refl _ _).alloc (Nat.le_refl _) _
  have h1 : w1.heap[w.heap.size]? = some (.cells #[.pointer none, .int .i64 0, .int .u64 0, .int .u64 0, .int .u32 0, .int .u32 0, .int .i64 0, .int .i64 0, .map none] 65 (0, 0)) := by rw [← hw1]; exact heap_alloc_new w _
  have NZ : Hid (∀ W, Below w1.heap.size w1 W → NoJ W (some ⟨w.heap.size, 0, none⟩)) := Lib.hid (fun W hb => .inr ⟨_, rfl, (hb.cell (Array.getElem?_eq_some_iff.1 h1).1).trans (cell_of_row w1 _ 0 _ _ (0, 0) h1)⟩)
  have W1 := Lib.hid hw1
  have B1 := Lib.hid hb1
  clear hw1 hb1 h1
  go_enter Try.func6, Try.ntmps6
  go_upto_region 3 with fail
  rw [W1.out]
  clear W1
  go_wp2_with (first
    | (go_at_call_of 18 (Value.pointer none); refine (open_nil _).mono ?_; rintro e w2 ⟨rfl, b2⟩
       have B2 := Lib.hid b2
       clear b2)
    | (go_at_call_of 16 (Value.int .i64 40); refine (C40.out w1 _ B2.out).mono ?_; rintro e w3 ⟨gd, rfl, a3⟩
       have A3 := Lib.hid a3
       clear a3)
    | (go_at_call 18; refine (CO.out w1 _ _ A3.out).mono ?_; rintro e w4 ⟨rfl, a4⟩
       have B4 := Lib.hid a4.bel
       clear a4)
    | (go_at_call_of 31 (Value.pointer none); refine (noj_read (.inl rfl)).mono ?_; rintro e w5 ⟨rfl, rfl⟩)
    | (go_at_call 31; refine (noj_read (NZ.out _ B4.out)).mono ?_; rintro e w5 ⟨rfl, rfl⟩)
    | (go_at_call 14; refine (CB.out _).mono ?_; rintro e w5 ⟨rfl, b5⟩
       have B5 := Lib.hid (B4.out.trans (b5.mono B4.out.size))
       clear b5)
    | (go_at_call_of 17 (Value.int .i64 8); refine (CFx.out _).mono ?_; rintro e w5' ⟨rfl, rfl⟩)
    | (go_at_call 16; refine (C32.out w1 _ B6.out).mono ?_; rintro e w7 ⟨gd7, rfl, a7⟩
       have A7 := Lib.hid a7
       clear a7)
    | (go_at_call 16; refine (C32.out w1 _ B5.out).mono ?_; rintro e w6 ⟨gd6, rfl, a6⟩
       have A6 := Lib.hid a6
       have B6 := Lib.hid a6.bel
       clear a6)
    | (go_at_call_of 17 (Value.int .i64 23); refine (CFn.out w1 _ _ A6.out).mono ?_; rintro e w6' ⟨rfl, rfl⟩)
    | (go_at_call_of 17 (Value.int .i64 22); refine (CFo.out w1 _ _ A7.out).mono ?_; rintro e w8 ⟨rfl, b8⟩
       have B8 := Lib.hid b8
       clear b8)
    | (go_at_call 24; refine (noj_commit (.inl rfl)).mono ?_; rintro e w9 ⟨rfl, rfl⟩)
    | (go_at_call 32; refine (noj_ck (NZ.out _ B8.out)).mono ?_; rintro e w9 ⟨rfl, rfl⟩)
    | (go_at_call_of 33 (Value.pointer none); refine (noj_homes (.inl rfl)).mono ?_; rintro e w9 ⟨rfl, rfl⟩)
    | (go_at_call 33; refine (noj_homes (NZ.out _ B8.out)).mono ?_; rintro e w9 ⟨rfl, rfl⟩)
    | (go_at_call_of 34 (Value.pointer none); refine (noj_free (.inl rfl)).mono ?_; rintro e w9 ⟨rfl, rfl⟩)
    | (go_at_call 34; refine (noj_free (NZ.out _ B8.out)).mono ?_; rintro e w9 ⟨rfl, rfl⟩)
    | (go_at_call_of 29 (Value.pointer none); refine (noj_turn (.inl rfl)).mono ?_; rintro e w9 ⟨rfl, rfl⟩)
    | (go_at_call 29; refine (noj_turn (NZ.out _ B8.out)).mono ?_; rintro e w9 ⟨rfl, rfl⟩))
  go_ret
  exact ⟨rfl, B1.out.trans (B8.out.mono B1.out.size)⟩
end Go.Proofs.Ytkbbpkbchniddaa
