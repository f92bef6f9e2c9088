/-
  Own work. The statements of layer 8: SpaceBack.
-/
import Derived.Test.YtadagbkfemcgfaaGreatS8
import Derived.Test.YtadagbkfemcgfaaGreatPl
namespace Go.Proofs.YtadagbkfemcgfaaGreat
open Go.RowKit Go.Maps
set_option linter.unusedVariables false
set_option linter.unusedSimpArgs false

theorem cntF_two {b : List UInt8} {x y z : Nat} (hxy : x ≤ y) (hyz : y ≤ z) (hb : ∀ i, tkB b i = (decide (i < x) || (decide (y ≤ i) && decide (i < z)))) : ∀ i, cntF b i = (i - z) + (min i y - x)
  | 0 => by simp [cntF]
  | i + 1 => by
    rw [cntF, cntF_two hxy hyz hb i, hb i]
    by_cases h1 : i < x
    · rw [decide_eq_true h1]; simp; omega
    · by_cases h2 : y ≤ i
      · by_cases h3 : i < z
        · rw [decide_eq_false h1, decide_eq_true h2, decide_eq_true h3]; simp; omega
        · rw [decide_eq_false h1, decide_eq_true h2, decide_eq_false h3]; simp; omega
      · rw [decide_eq_false h1, decide_eq_false h2]; simp; omega
set_option maxRecDepth 100000 in
set_option maxHeartbeats 4000000 in
theorem spaceback_law (Z : DK) (a0 a1 a2 : Int) (w : World) (h0 : -9223372036854775808 ≤ a0 ∧ a0 ≤ 9223372036854775807) (h1 : -9223372036854775808 ≤ a1 ∧ a1 ≤ 9223372036854775807) (h2 : -9223372036854775808 ≤ a2 ∧ a2 ≤ 9223372036854775807) :
    Calls Tryz.prog 4 #[.int .i64 a0, .int .i64 a1, .int .i64 a2] w (RetTrue w) := by
  have CB := Lib.hid (begun_sp Z w w (Below.refl _ _) 300 (by omega) (by omega))
  have CG := Lib.hid (fun W => begun8_any Z W)
  have CP0 := Lib.hid (fun W => place_any a0 64 W h0 (by omega) (by omega))
  have CP1 := Lib.hid (fun W => place_any a1 64 W h1 (by omega) (by omega))
  have CP2 := Lib.hid (fun W => place_any a2 64 W h2 (by omega) (by omega))
  clear h0 h1 h2
  go_enter Tryz.func4, Tryz.ntmps4
  go_upto_region 4 with (first
    | (go_at_call 9; refine CB.out.mono ?_; rintro e w1 ⟨g, gd, gp, gt, rfl, s1⟩
       have S1 := Lib.hid s1
       clear s1)
    | (go_at_call 7; refine (CG.out _).mono ?_; rintro e w2 ⟨rfl, b2⟩
       have S2 := Lib.hid (S1.out.below b2)
       clear b2))
  clear CB CG S1
  -- the three numbers, one after the other
  have P0 := CP0.out w2
  have P1 := CP1.out w2
  have P2 := CP2.out w2
  clear CP0 CP1 CP2
  have Q0 := Lib.hid P0
  have Q1 := Lib.hid P1
  have Q2 := Lib.hid P2
  clear P0 P1 P2
  go_upto_region 5 with (first
    | (go_at_call_of 8 (Value.int .i64 a0); refine Q0.out.mono ?_; rintro e w3 ⟨⟨x0, hx0, rfl⟩, rfl⟩)
    | (go_at_call_of 8 (Value.int .i64 a1); refine Q1.out.mono ?_; rintro e w3 ⟨⟨x1, hx1, rfl⟩, rfl⟩)
    | (go_at_call_of 8 (Value.int .i64 a2); refine Q2.out.mono ?_; rintro e w3 ⟨⟨x2, hx2, rfl⟩, rfl⟩))
  clear Q0 Q1 Q2
  obtain ⟨a, ha⟩ : ∃ a, 1 + x0 = a := ⟨_, rfl⟩
  obtain ⟨b, hb⟩ : ∃ a, 1 + x1 = a := ⟨_, rfl⟩
  obtain ⟨c, hc⟩ : ∃ a, 1 + x2 = a := ⟨_, rfl⟩
  have ea : (1 : Int) + (x0 : Int) = (a : Int) := by omega
  have eb : (1 : Int) + (x1 : Int) = (b : Int) := by omega
  have ec : (1 : Int) + (x2 : Int) = (c : Int) := by omega
  have ra : 1 ≤ a ∧ a ≤ 64 := by omega
  have rb : 1 ≤ b ∧ b ≤ 64 := by omega
  have rc : 1 ≤ c ∧ c ≤ 64 := by omega
  rw [ea, eb, ec]
  clear ha hb hc ea eb ec hx0 hx1 hx2
  obtain ⟨ra1, ra2⟩ := ra
  obtain ⟨rb1, rb2⟩ := rb
  obtain ⟨rc1, rc2⟩ := rc
  have g1 : IsGap B0 282 a 4 := gap_at B0_tk ra1 rfl (by omega)
  have b1 : ∀ x, tkB (flipL B0 4 a) x = decide (x < 4 + a) := fun x => by
    rw [tk_take B0_len (by omega) ra1 g1, B0_tk, Bool.eq_iff_iff]; simp; omega
  have l1 : (flipL B0 4 a).length = 512 := by rw [flipL_len]; exact B0_len
  obtain ⟨M1, hM1⟩ : ∃ M, flipL B0 4 a = M := ⟨_, rfl⟩
  rw [hM1] at b1 l1
  have g2 : IsGap M1 282 b (4 + a) := gap_at b1 rb1 rfl (by omega)
  have b2 : ∀ x, tkB (flipL M1 (4 + a) b) x = decide (x < 4 + a + b) := fun x => by
    rw [tk_take l1 (by omega) rb1 g2, b1, Bool.eq_iff_iff]; simp; omega
  have l2 : (flipL M1 (4 + a) b).length = 512 := by rw [flipL_len]; exact l1
  obtain ⟨M2, hM2⟩ : ∃ M, flipL M1 (4 + a) b = M := ⟨_, rfl⟩
  rw [hM2] at b2 l2
  have x3 : IsExt M2 282 ((4 : Nat) : Int) (a : Int) := ⟨by omega, by omega, fun j hj => by rw [b2]; exact decide_eq_true (by rw [Int.toNat_natCast]; omega)⟩
  have b3 : ∀ x, tkB (flipL M2 4 a) x = (decide (x < 4) || (decide (4 + a ≤ x) && decide (x < 4 + a + b))) := fun x => by
    rw [tk_free l2 (by omega) x3, b2, Bool.eq_iff_iff]; simp; omega
  obtain ⟨M3, hM3⟩ : ∃ M, flipL M2 4 a = M := ⟨_, rfl⟩
  rw [hM3] at b3
  have c2 : cntF M2 282 = 278 - a - b := by rw [cntF_two (x := 4 + a + b) (y := 4 + a + b) (z := 4 + a + b) (by omega) (by omega) (fun i => by rw [b2, Bool.eq_iff_iff]; simp)]; omega
  have c3 : cntF M3 282 = 278 - b := by rw [cntF_two (x := 4) (y := 4 + a) (z := 4 + a + b) (by omega) (by omega) b3]; omega
  obtain ⟨m2, hm2⟩ : ∃ m, cntF M2 282 = m := ⟨_, rfl⟩
  obtain ⟨m3, hm3⟩ : ∃ m, cntF M3 282 = m := ⟨_, rfl⟩
  have em : (m3 : Int) = (m2 : Int) + (a : Int) := by omega
  have hm9 : m2 ≤ 300 := by omega
  have g4 : IsGap M3 282 c (if c ≤ a then 4 else 4 + a + b) := by
    by_cases hca : c ≤ a
    · rw [if_pos hca]
      refine ⟨by omega, fun j hj => by rw [b3]; simp; omega, fun s' hs' => ⟨0, by omega, by rw [b3]; simp; omega⟩⟩
    · rw [if_neg hca]
      refine ⟨by omega, fun j hj => by rw [b3]; simp; omega, fun s' hs' => ?_⟩
      by_cases h4 : s' < 4
      · exact ⟨0, by omega, by rw [b3]; simp; omega⟩
      · by_cases h5 : s' < 4 + a
        · exact ⟨4 + a - s', by omega, by rw [b3]; simp; omega⟩
        · exact ⟨0, by omega, by rw [b3]; simp; omega⟩
  obtain ⟨z, hz⟩ : ∃ z, (if c ≤ a then 4 else 4 + a + b) = z := ⟨_, rfl⟩
  rw [hz] at g4
  obtain ⟨y, hy⟩ : ∃ y, 4 + a = y := ⟨_, rfl⟩
  rw [hy] at g2 hM2
  have ey : (y : Int) = 4 + (a : Int) := by omega
  have G1 := Lib.hid g1
  have G2 := Lib.hid g2
  have G4 := Lib.hid g4
  have X3 := Lib.hid x3
  have H1 := Lib.hid hM1
  have H2 := Lib.hid hM2
  have H3 := Lib.hid hM3
  have E2 := Lib.hid hm2
  have E3 := Lib.hid hm3
  have HZ := Lib.hid hz
  have hzc : (c ≤ a ∧ z = 4) ∨ (¬ c ≤ a ∧ z = y + b) := by
    by_cases hca : c ≤ a
    · exact .inl ⟨hca, by rw [← hz, if_pos hca]⟩
    · exact .inr ⟨hca, by rw [← hz, if_neg hca]; omega⟩
  clear g1 g2 g4 x3 b1 b2 b3 l1 l2 c2 c3 hM1 hM2 hM3 hm2 hm3 hz hy
  have C5 := Lib.hid (take_yes S2.out (by omega) (by omega) a 4 ra1 ra2 G1.out)
  rw [H1.out] at C5
  go_upto_region 11 with (first
    | (go_at_call_of 10 (Value.int .i64 ((a : Nat) : Int)); refine C5.out.mono ?_; rintro e w5 ⟨rfl, s5, _⟩
       have c6 := take_yes s5 (by omega) (by omega) b y rb1 rb2 G2.out
       rw [H2.out] at c6
       have C6 := Lib.hid c6
       clear s5 c6)
    | (go_at_call_of 10 (Value.int .i64 ((b : Nat) : Int)); refine C6.out.mono ?_; rintro e w6 ⟨rfl, s6, _⟩
       have c7 := left_sp s6 (by omega)
       rw [show 300 - 2 - 16 = 282 from rfl, E2.out] at c7
       have C7 := Lib.hid c7
       clear s6 c7)
    | (go_at_call 12; refine C9.out.mono ?_; rintro e w9 ⟨rfl, s9, _⟩
       have C10 := Lib.hid (take_yes s9 (by omega) (by omega) c z rc1 rc2 G4.out)
       clear s9)
    | (go_at_call 12; refine C7.out.mono ?_; rintro e w7 ⟨rfl, s7, _⟩
       have c8 := free_yes s7 (by omega) (by omega) 4 a ra1 ra2 X3.out
       rw [H3.out] at c8
       have C8 := Lib.hid c8
       clear s7 c8)
    | (go_at_call 13; refine C8.out.mono ?_; rintro e w8 ⟨rfl, s8, _⟩
       have c9 := left_sp s8 (by omega)
       rw [show 300 - 2 - 16 = 282 from rfl, E3.out] at c9
       have C9 := Lib.hid c9
       clear s8 c9)
    | (go_at_call_of 10 (Value.int .i64 ((c : Nat) : Int)); refine C10.out.mono ?_; rintro e w10 ⟨rfl, s10, _⟩
       have BL := Lib.hid s10.up
       clear s10))
  rcases hzc with ⟨hca, rfl⟩ | ⟨hca, hzy⟩
  · have hca' : (c : Int) ≤ (a : Int) := by omega
    go_wp2_with fail
    go_ret
    exact ⟨by simp [*], BL.out⟩
  · have hca' : ¬ (c : Int) ≤ (a : Int) := by omega
    have hca2 : (a : Int) < (c : Int) := by omega
    have ez : (z : Int) = (y : Int) + (b : Int) := by omega
    go_wp2_with fail
    go_ret
    exact ⟨by simp [*], BL.out⟩
end Go.Proofs.YtadagbkfemcgfaaGreat
