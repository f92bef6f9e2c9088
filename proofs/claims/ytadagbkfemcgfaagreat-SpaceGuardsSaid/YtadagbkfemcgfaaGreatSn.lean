/-
  Own work. The statements of layer 8: SpaceNone, SpaceGuards, SpaceBack.
-/
import Derived.Test.YtadagbkfemcgfaaGreatS8
import Derived.Test.YtadagbkfemcgfaaGreatPl
namespace Go.Proofs.YtadagbkfemcgfaaGreat
open Go.RowKit Go.Maps
set_option linter.unusedVariables false
set_option linter.unusedSimpArgs false

/-! ### A transaction that is over -/
section
variable {w : World} {v : Value}
theorem load_over (a : TN w v) : Calls Tryz.prog 21 #[v] w (RetW w (.tuple #[.pointer none, .int .i64 5])) := by
  have C := Lib.hid (tread_no a 1)
  clear a
  go_enter Tryz.func21, Tryz.ntmps21
  go_wp2_with (go_at_call 28; refine C.out.mono ?_; rintro e w1 ⟨rfl, rfl⟩)
  go_ret2
  exact ⟨rfl, rfl⟩
theorem take_over (a : TN w v) (k : Int) : Calls Tryz.prog 10 #[v, .int .i64 k] w (RetW w (.tuple #[.int .i64 0, .int .i64 5])) := by
  have C := Lib.hid (load_over a)
  clear a
  go_enter Tryz.func10, Tryz.ntmps10
  go_wp2_with (go_at_call 21; refine C.out.mono ?_; rintro e w1 ⟨rfl, rfl⟩)
  go_ret2
  exact ⟨rfl, rfl⟩
theorem left_over (a : TN w v) : Calls Tryz.prog 12 #[v] w (RetW w (.tuple #[.int .i64 0, .int .i64 5])) := by
  have C := Lib.hid (load_over a)
  clear a
  go_enter Tryz.func12, Tryz.ntmps12
  go_wp2_with (go_at_call 21; refine C.out.mono ?_; rintro e w1 ⟨rfl, rfl⟩)
  go_ret2
  exact ⟨rfl, rfl⟩
theorem taken_over (a : TN w v) (k : Int) : Calls Tryz.prog 11 #[v, .int .i64 k] w (RetW w (.tuple #[.bool false, .int .i64 5])) := by
  have C := Lib.hid (load_over a)
  clear a
  go_enter Tryz.func11, Tryz.ntmps11
  go_wp2_with (go_at_call 21; refine C.out.mono ?_; rintro e w1 ⟨rfl, rfl⟩)
  go_ret2
  exact ⟨rfl, rfl⟩
theorem free_over (a : TN w v) (s k : Int) : Calls Tryz.prog 13 #[v, .int .i64 s, .int .i64 k] w (RetW w (.int .i64 5)) := by
  have C := Lib.hid (load_over a)
  clear a
  go_enter Tryz.func13, Tryz.ntmps13
  go_wp2_with (go_at_call 21; refine C.out.mono ?_; rintro e w1 ⟨rfl, rfl⟩)
  go_ret
  exact ⟨rfl, rfl⟩
theorem root_over (a : TN w v) (k : Int) : Calls Tryz.prog 15 #[v, .int .i64 k] w (RetW w (.tuple #[.int .u32 0, .int .i64 5])) := by
  have C := Lib.hid (tread_no a 0)
  clear a
  go_enter Tryz.func15, Tryz.ntmps15
  go_wp2_with (go_at_call 28; refine C.out.mono ?_; rintro e w1 ⟨rfl, rfl⟩)
  go_ret2
  exact ⟨rfl, rfl⟩
theorem setroot_over (a : TN w v) (k x : Int) : Calls Tryz.prog 17 #[v, .int .i64 k, .int .u32 x] w (RetW w (.int .i64 5)) := by
  have C := Lib.hid (tread_no a 0)
  clear a
  go_enter Tryz.func17, Tryz.ntmps17
  go_wp2_with (go_at_call 28; refine C.out.mono ?_; rintro e w1 ⟨rfl, rfl⟩)
  go_ret
  exact ⟨rfl, rfl⟩
theorem sfin_over (a : TN w v) : Calls Tryz.prog 31 #[v] w (RetW w (.bool true)) := by
  have C := Lib.hid (thomes_no a)
  clear a
  go_enter Tryz.func31, Tryz.ntmps31
  go_wp2_with (go_at_call 41; refine C.out.mono ?_; rintro e w1 ⟨rfl, rfl⟩)
  go_ret
  exact ⟨rfl, rfl⟩
theorem format_over (a : TN w v) : Calls Tryz.prog 16 #[v] w (RetW w (.int .i64 5)) := by
  have C := Lib.hid (sfin_over a)
  clear a
  go_enter Tryz.func16, Tryz.ntmps16
  go_wp2_with (go_at_call 31; refine C.out.mono ?_; rintro e w1 ⟨rfl, rfl⟩)
  go_ret
  exact ⟨rfl, rfl⟩
end
theorem SpU.abort {Z : DK} {w0 W : World} {g gd gp gt n V r q : Nat} {b : List UInt8} {E : Nat → Prop} (a : SpU Z w0 W g gd gp gt n V r q b E) : Calls Tryz.prog 14 #[.pointer (some ⟨gt, 0, none⟩)] W fun e w' => e = .returned (.tuple #[]) ∧ TN w' (.pointer (some ⟨gt, 0, none⟩)) ∧ Below w0.heap.size w0 w' := by
  obtain ⟨p, j, T, u, H, ws, M, U, s, t, _⟩ := a
  obtain ⟨gm, _, _, _, _, hg⟩ := t.cells
  refine (tabort_row _ hg rfl).mono ?_
  rintro e w' ⟨he, z, y⟩
  have hb := U.up.bel
  have hl := U.lt gt (.inl (.inl rfl))
  exact ⟨he, .inr ⟨gt, rfl, z⟩, hb.trans (y.to_below (fun k hk => by rw [hk]; exact hl.1) hb.size)⟩
set_option maxRecDepth 100000 in
set_option maxHeartbeats 2000000 in
theorem spacenone_law (Z : DK) (w : World) : Calls Tryz.prog 6 #[] w (RetTrue w) := by
  have CB := Lib.hid (begun_sp Z w w (Below.refl _ _) 64 (by omega) (by omega))
  have CG := Lib.hid (fun W => begun8_any Z W)
  go_enter Tryz.func6, Tryz.ntmps6
  go_wp2_with (first
    | (go_at_call 9; refine CB.out.mono ?_; rintro e w1 ⟨g, gd, gp, gt, rfl, s1⟩
       have S1 := Lib.hid s1
       clear s1)
    | (go_at_call 7; refine (CG.out _).mono ?_; rintro e w2 ⟨rfl, b2⟩
       have CA := Lib.hid (S1.out.below b2).abort
       clear b2)
    | (go_at_call 14; refine CA.out.mono ?_; rintro e w3 ⟨rfl, t3, b3⟩
       have T3 := Lib.hid t3
       have B3 := Lib.hid b3
       clear t3 b3)
    | (go_at_call 10; refine (take_over T3.out 1).mono ?_; rintro e w4 ⟨rfl, rfl⟩)
    | (go_at_call 12; refine (left_over T3.out).mono ?_; rintro e w4 ⟨rfl, rfl⟩)
    | (go_at_call 15; refine (root_over T3.out 0).mono ?_; rintro e w4 ⟨rfl, rfl⟩)
    | (go_at_call 11; refine (taken_over (.inl rfl) 4).mono ?_; rintro e w4 ⟨rfl, rfl⟩)
    | (go_at_call 16; refine (format_over T3.out).mono ?_; rintro e w4 ⟨rfl, rfl⟩)
    | (go_at_call 17; refine (setroot_over T3.out 0 1).mono ?_; rintro e w4 ⟨rfl, rfl⟩)
    | (go_at_call 13; refine (free_over T3.out 4 1).mono ?_; rintro e w4 ⟨rfl, rfl⟩))
  go_ret
  exact ⟨rfl, B3.out⟩
set_option maxRecDepth 100000 in
set_option maxHeartbeats 2000000 in
theorem spaceguards_law (Z : DK) (a0 a1 a2 : Int) (w : World) (h0 : -9223372036854775808 ≤ a0 ∧ a0 ≤ 9223372036854775807) (h1 : -9223372036854775808 ≤ a1 ∧ a1 ≤ 9223372036854775807) (h2 : -9223372036854775808 ≤ a2 ∧ a2 ≤ 9223372036854775807) :
    Calls Tryz.prog 5 #[.int .i64 a0, .int .i64 a1, .int .i64 a2] w (RetTrue w) := by
  have CB := Lib.hid (fun n h1 h2 => begun_sp Z w w (Below.refl _ _) n h1 h2)
  have CG := Lib.hid (fun W => begun8_any Z W)
  have CP0 := Lib.hid (fun W => place_any a0 337 W h0 (by omega) (by omega))
  have CP1 := Lib.hid (fun W => place_any a1 4 W h1 (by omega) (by omega))
  have CP2 := Lib.hid (fun W => place_any a2 8 W h2 (by omega) (by omega))
  clear h0 h1 h2
  go_enter Tryz.func5, Tryz.ntmps5
  go_upto_region 4 with (first
    | (go_at_call 8; refine (CP0.out _).mono ?_; rintro e w0 ⟨⟨m, hm, rfl⟩, rfl⟩
       have en : (64 : Int) + (m : Int) = ((64 + m : Nat) : Int) := by omega
       have EN := Lib.hid en
       clear en)
    | (go_at_call 9; rw [EN.out]; refine (CB.out (64 + m) (by omega) (by omega)).mono ?_; rintro e w1 ⟨g, gd, gp, gt, rfl, s1⟩
       have S1 := Lib.hid s1
       clear s1)
    | (go_at_call 7; refine (CG.out _).mono ?_; rintro e w2 ⟨rfl, b2⟩
       have S2 := Lib.hid (S1.out.below b2)
       clear b2))
  obtain ⟨n, hn⟩ : ∃ n, 64 + m = n := ⟨_, rfl⟩
  rw [hn] at S2
  have hn1 : 64 ≤ n := by omega
  have hn2 : n ≤ 400 := by omega
  clear hn S1 hm EN
  go_upto_region 6 with (first
    | (go_at_call_of 8 (Value.int .i64 4); refine (CP1.out _).mono ?_; rintro e w0 ⟨⟨s, hs, rfl⟩, rfl⟩)
    | (go_at_call_of 8 (Value.int .i64 8); refine (CP2.out _).mono ?_; rintro e w0 ⟨⟨k0, hk0, rfl⟩, rfl⟩))
  obtain ⟨k, hk⟩ : ∃ k, 1 + k0 = k := ⟨_, rfl⟩
  have ek : (1 : Int) + (k0 : Int) = (k : Int) := by omega
  have hk1 : 1 ≤ k := by omega
  have hk2 : k ≤ 8 := by omega
  have tk0 : tkB B0 s = true := by rw [B0_tk]; exact decide_eq_true hs
  have ct := taken_sp S2.out (by omega) s (by omega)
  rw [tk0] at ct
  have CT := Lib.hid ct
  have GG := Lib.hid (gap_at (h := n - 2 - 16) (k := k) B0_tk hk1 rfl (by omega))
  have NX : Hid (∀ b : List UInt8, ¬ IsExt b (n - 2 - 16) (s : Int) (k : Int)) := Lib.hid (fun b h => by have := h.1; omega)
  have EK := Lib.hid ek
  clear ct hk tk0 ek
  go_wp2_with (first
    | (go_at_call 11; refine CT.out.mono ?_; rintro e w3 ⟨rfl, s3, _⟩
       have C4 := Lib.hid (take_yes s3 (by omega) (by omega) k 4 hk1 (by omega) GG.out)
       clear s3)
    | (go_at_call 10; (try rw [EK.out]); refine C4.out.mono ?_; rintro e w4 ⟨rfl, s4, _⟩
       have C5 := Lib.hid (free_no s4 (by omega) (s : Int) k (by omega) hk1 (by omega) (NX.out _))
       clear s4)
    | (go_at_call 13; (try rw [EK.out]); refine C5.out.mono ?_; rintro e w5 ⟨rfl, s5, _⟩
       have BL := Lib.hid s5.up
       clear s5))
  go_ret
  exact ⟨rfl, BL.out⟩
end Go.Proofs.YtadagbkfemcgfaaGreat
