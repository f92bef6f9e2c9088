/-
  Own work. DiskNone walked.
-/
import Derived.Test.YtpnmcdpekfibjaaNz
namespace Go.Proofs.Ytpnmcdpekfibjaa
open Go.RowKit
set_option linter.unusedVariables false
set_option linter.unusedSimpArgs false

theorem built0 : Try.prog.built 58 [] = some #[.slice none 0 0, .map none, .bool false, .bool false, .int .i64 0, .int .i64 0, .int .i64 0, .slice none 0 0, .int .i64 0, .int .i64 0] := by kernel_rfl
set_option maxRecDepth 100000 in
set_option maxHeartbeats 4000000 in
theorem none_law (Z : DK) (w : World) : Calls Try.prog 8 #[] w (RetTrue w) := by
  have ND : Hid (∀ W, NoDisk W none) := Lib.hid (fun W => .inl rfl)
  go_enter Try.func8, Try.ntmps8
  go_upto_region 3 with (refine wpList_buildG rfl 58 rfl _ built0 ?_)
  have ha := heap_alloc_new w (.cells #[.slice none 0 0, .map none, .bool false, .bool false, .int .i64 0, .int .i64 0, .int .i64 0, .slice none 0 0, .int .i64 0, .int .i64 0] 58)
  have hb : Below w.heap.size w (w.alloc (.cells #[.slice none 0 0, .map none, .bool false, .bool false, .int .i64 0, .int .i64 0, .int .i64 0, .slice none 0 0, .int .i64 0, .int .i64 0] 58)) := (Below.refl _ _).alloc (Nat.le_refl _) _
  have hs : (w.alloc (.cells #[.slice none 0 0, .map none, .bool false, .bool false, .int .i64 0, .int .i64 0, .int .i64 0, .slice none 0 0, .int .i64 0, .int .i64 0] 58)).heap.size = w.heap.size + 1 := by simp
  generalize World.alloc w _ = w1 at ha hb hs ⊢
  obtain ⟨g, hg⟩ : ∃ g, w.heap.size = g := ⟨_, rfl⟩
  rw [hg] at ha hb hs ⊢
  have ZD1 : Hid (NoDisk w1 (some ⟨g, 0, none⟩)) := Lib.hid (.inr ⟨g, rfl, cell_of_row _ g 0 _ _ (0, 0) ha⟩)
  have HB := Lib.hid hb
  have HS := Lib.hid hs
  have HG := Lib.hid hg
  have ZW : Hid (∀ W, Below w1.heap.size w1 W → NoDisk W (some ⟨g, 0, none⟩)) := Lib.hid (fun W hW => ZD1.out.below (fun g' o s e => by injection e with e; injection e with e; have := HS.out; omega) hW)
  clear ha hb hs hg
  go_upto_region 4 with (go_at_call 25; refine (none_arm 1 1 (ND.out _)).mono ?_; rintro e w1' ⟨rfl, rfl⟩)
  go_upto_region 5 with (go_at_call 16; refine (none_power none 0 0 (ND.out _)).mono ?_; rintro e w1' ⟨rfl, rfl⟩)
  go_upto_region 6 with (go_at_call 16; refine (none_power none 0 0 ZD1.out).mono ?_; rintro e w1' ⟨rfl, rfl⟩)
  go_upto_region 7 with (go_at_call 18; refine (none_read 0 (ND.out _)).mono ?_; rintro e w1' ⟨rfl, rfl⟩)
  go_upto_region 8 with (go_at_call 18; refine (none_read 0 ZD1.out).mono ?_; rintro e w1' ⟨rfl, rfl⟩)
  go_wp2_with (first
    | (go_at_call 9; refine (begun5_any Z _).mono ?_; rintro e w2 ⟨rfl, b2⟩
       have B2 := Lib.hid b2
       clear b2)
    | (go_at_call 20; refine (full_any none 0 0 [] _ 0 (HasB.nil _ _ _) (Nat.zero_le _)).mono ?_; rintro e w3 ⟨A3, n3, c3, rfl, own3, b3⟩
       have BB : Below w1.heap.size w1 w3 := B2.out.trans (b3.mono B2.out.size)
       have ZD := Lib.hid (ZW.out _ BB)
       have B3 : Hid (Below g w w3) := Lib.hid (HB.out.trans (BB.mono (by have := HS.out; omega)))
       clear own3 b3 BB)
    | (go_at_call_of 23 (Value.pointer none); refine (none_write 0 _ _ _ (ND.out _)).mono ?_; rintro e w1' ⟨rfl, rfl⟩)
    | (go_at_call 24; refine (none_flush ZD.out).mono ?_; rintro e w1' ⟨rfl, rfl⟩)
    | (go_at_call_of 21 (Value.pointer none); refine (none_dead (ND.out _)).mono ?_; rintro e w1' ⟨rfl, rfl⟩)
    | (go_at_call 21; refine (none_dead ZD.out).mono ?_; rintro e w1' ⟨rfl, rfl⟩)
    | (go_at_call_of 19 (Value.pointer none); refine (none_len (ND.out _)).mono ?_; rintro e w1' ⟨rfl, rfl⟩)
    | (go_at_call 19; refine (none_len ZD.out).mono ?_; rintro e w1' ⟨rfl, rfl⟩)
    | (go_at_call_of 29 (Value.pointer none); refine (none_writes (ND.out _)).mono ?_; rintro e w1' ⟨rfl, rfl⟩)
    | (go_at_call 26; refine (none_lives ZD.out).mono ?_; rintro e w1' ⟨rfl, rfl⟩)
    | (go_at_call_of 22 (Value.pointer none); refine (none_waiting (ND.out _)).mono ?_; rintro e w1' ⟨rfl, rfl⟩)
    | (go_at_call_of 27 (Value.pointer none); refine (none_copy (ND.out _)).mono ?_; rintro e w1' ⟨rfl, rfl⟩)
    | (go_at_call 27; refine (none_copy ZD.out).mono ?_; rintro e w1' ⟨rfl, rfl⟩))
  go_ret
  exact ⟨rfl, HG.out ▸ B3.out⟩
end Go.Proofs.Ytpnmcdpekfibjaa
