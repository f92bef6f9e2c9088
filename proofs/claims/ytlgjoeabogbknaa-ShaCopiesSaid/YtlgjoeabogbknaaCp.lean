/-
  The law ShaCopies walked: a copy goes on by itself.
-/
import Derived.Test.YtlgjoeabogbknaaKp
namespace Go.Proofs.Ytlgjoeabogbknaa
open Go.RowKit
set_option linter.unusedVariables false
set_option linter.unusedSimpArgs false

set_option maxRecDepth 100000 in
set_option maxHeartbeats 600000 in
theorem copies_law (A B C : Option Addr) (a b k : List UInt8) (n c m d p q : Nat) (w : World) (ha : HasB w w.heap.size A n a) (hb : HasB w w.heap.size B m b) (hk : HasB w w.heap.size C p k) (hc : n ≤ c) (hd : m ≤ d) (hq : p ≤ q) (hcm : c ≤ maxLen) (hdm : d ≤ maxLen) (hqm : q ≤ maxLen) :
    Calls Try.prog 5 #[.slice A n c, .slice B m d, .slice C p q] w (RetTrue w) := by
  unfold maxLen at hcm hdm hqm
  have HA := Lib.hid ha
  have HB := Lib.hid hb
  have HK := Lib.hid hk
  clear ha hb hk
  by_cases h1 : n ≤ 4096
  · by_cases h2 : m ≤ 4096
    · by_cases h3 : p ≤ 4096
      · go_enter Try.func5, Try.ntmps5
        go_wp2_with (first
          | (go_at_call 9; refine (begun_any _).mono ?_; rintro e w1 ⟨rfl, b1⟩
             have B1 := Lib.hid b1
             clear b1)
          | (go_at_call 12; refine (new_any _).mono ?_; rintro e w2 ⟨g, rfl, hg, hd2, b2⟩
             have hgw : w.heap.size ≤ g := Nat.le_trans B1.out.size hg
             have b2' := B1.out.trans (b2.mono B1.out.size)
             have hs2 : Src w2 g A n a := Src.of_below (HA.out.below b2') hgw hd2.lt
             have hw3 := write_any g n c [] a A w2 hd2 hs2 hc (by have := HA.out.len; simp; omega)
             have HGW := Lib.hid hgw
             have HW3 := Lib.hid hw3
             have B2 := Lib.hid b2'
             clear hg hd2 b2 b2' hgw hs2 hw3)
          | (go_at_call_of 13 A; refine HW3.out.mono ?_; rintro e w3 ⟨rfl, hd3, g3⟩
             have b3 := below_row B2.out g3 HGW.out B2.out.size
             have hc3 := copy_any g a w3 hd3 (by have := HA.out.len; omega)
             have B3 := Lib.hid b3
             have HC3 := Lib.hid hc3
             have HD3 := Lib.hid hd3
             clear hd3 g3 b3 hc3)
          | (go_at_call 20; refine HC3.out.mono ?_; rintro e w4 ⟨g', rfl, hg', hd4, b4⟩
             have hne : g < g' := Nat.lt_of_lt_of_le HD3.out.lt hg'
             have hd4' : HashD w4 g a := HD3.out.below b4 HD3.out.lt
             have b4' := B3.out.trans (b4.mono B3.out.size)
             have hgw' : w.heap.size ≤ g' := Nat.le_trans HGW.out (Nat.le_of_lt hne)
             have hs4 : Src w4 g B m b := Src.of_below (HB.out.below b4') HGW.out hd4'.lt
             have hw5 := write_any g m d a b B w4 hd4' hs4 hd (by have := HA.out.len; have := HB.out.len; omega)
             have HNE := Lib.hid hne
             have HGW' := Lib.hid hgw'
             have HD4 := Lib.hid hd4
             have B4 := Lib.hid b4'
             have HW5 := Lib.hid hw5
             clear hg' hd4 b4 hne hd4' b4' hgw' hs4 hw5)
          | (go_at_call_of 13 B; refine HW5.out.mono ?_; rintro e w5 ⟨rfl, hd5, g5⟩
             have b5 := below_row B4.out g5 HGW.out B4.out.size
             have hd5' : HashD w5 g' a := HD4.out.grown g5 (by intro e; injection e with e; have := HNE.out; omega)
             have hs5 : Src w5 g' C p k := Src.of_below (HK.out.below b5) HGW'.out hd5'.lt
             have hw6 := write_any g' p q a k C w5 hd5' hs5 hq (by have := HA.out.len; have := HK.out.len; omega)
             have B5 := Lib.hid b5
             have HD5 := Lib.hid hd5
             have HW6 := Lib.hid hw6
             clear hd5 g5 b5 hd5' hs5 hw6)
          | (go_at_call_of 13 C; refine HW6.out.mono ?_; rintro e w6 ⟨rfl, hd6, g6⟩
             have b6 := below_row B5.out g6 HGW'.out B5.out.size
             have hd6' : HashD w6 g (a ++ b) := HD5.out.grown g6 (by intro e; injection e with e; have := HNE.out; omega)
             have hs6 := sum_any g (a ++ b) w6 hd6' (by have := HA.out.len; have := HB.out.len; simp; omega)
             have HS6 := Lib.hid hs6
             have HD6 := Lib.hid hd6
             have B6 := Lib.hid b6
             clear hd6 hd6' g6 b6 hs6)
          | (go_at_call_of 16 (Value.pointer (some ⟨g, 0, none⟩)); refine HS6.out.mono ?_; rintro e w7 ⟨rfl, b7⟩
             have b7' := B6.out.trans (b7.mono B6.out.size)
             have hd7 := HD6.out.below b7 HD6.out.lt
             have ho7 := of_two (HA.out.on b7') (HB.out.on b7') hc hd h1 h2
             have B7 := Lib.hid b7'
             have HD7 := Lib.hid hd7
             have HO7 := Lib.hid ho7
             clear b7 b7' hd7 ho7)
          | (go_at_call_of 15 (Value.slice (some ⟨w7.heap.size, 0, none⟩) 2 2); refine HO7.out.mono ?_; rintro e w8 ⟨rfl, b8⟩
             have b8a := (Below.refl w7.heap.size w7).alloc (Nat.le_refl _) (.cells #[.slice A n c, .slice B m d] 29)
             have b8b := b8a.trans (b8.mono (by simp))
             have b8' := B7.out.trans (b8b.mono B7.out.size)
             have hd8 := HD7.out.below b8b HD7.out.lt
             have hs8 := sum_any g' (a ++ k) w8 hd8 (by have := HA.out.len; have := HK.out.len; simp; omega)
             have B8 := Lib.hid b8'
             have HD8 := Lib.hid hd8
             have HS8 := Lib.hid hs8
             clear b8 b8' b8a b8b hd8 hs8)
          | (go_at_call 16; refine HS8.out.mono ?_; rintro e w9 ⟨rfl, b9⟩
             have b9' := B8.out.trans (b9.mono B8.out.size)
             have hd9 := HD8.out.below b9 HD8.out.lt
             have ho9 := of_two (HA.out.on b9') (HK.out.on b9') hc hq h1 h3
             have B9 := Lib.hid b9'
             have HD9 := Lib.hid hd9
             have HO9 := Lib.hid ho9
             clear b9 b9' hd9 ho9)
          | (go_at_call 15; refine HO9.out.mono ?_; rintro e w10 ⟨rfl, b10⟩
             have b10a := (Below.refl w9.heap.size w9).alloc (Nat.le_refl _) (.cells #[.slice A n c, .slice C p q] 29)
             have b10b := b10a.trans (b10.mono (by simp))
             have b10' := B9.out.trans (b10b.mono B9.out.size)
             have hd10 := HD9.out.below b10b HD9.out.lt
             have hl10 := len_any g' (a ++ k) w10 hd10 (by have := HA.out.len; have := HK.out.len; simp; omega)
             have hlen : (((a ++ k).length : Nat) : Int) = (n : Int) + (p : Int) := by rw [List.length_append, ← HA.out.len, ← HK.out.len]; omega
             rw [hlen] at hl10
             have B10 := Lib.hid b10'
             have HL10 := Lib.hid hl10
             clear b10 b10' b10a b10b hd10 hl10 hlen)
          | (go_at_call 17; refine HL10.out.mono ?_; rintro e w11 ⟨rfl, rfl⟩)
          | (refine wpList_eqlG rfl 31 31 (.tmp 37) (.tmp 41) rfl (.agg (cellsB (sumS (a ++ b))).toArray) (.agg (cellsB (sumS (a ++ b))).toArray) true rfl rfl (guard_id _ _ _ _ _) (eql_id_same _ (sum_len _) _) ?_)
          | (refine wpList_eqlG rfl 31 31 (.tmp 45) (.tmp 49) rfl (.agg (cellsB (sumS (a ++ k))).toArray) (.agg (cellsB (sumS (a ++ k))).toArray) true rfl rfl (guard_id _ _ _ _ _) (eql_id_same _ (sum_len _) _) ?_))
        go_ret
        exact ⟨by simp, B10.out⟩
      · go_enter Try.func5, Try.ntmps5
        go_wp2_with (go_at_call 9; refine (begun_any _).mono ?_; rintro e w1 ⟨rfl, b1⟩)
        go_ret
        exact ⟨rfl, b1⟩
    · go_enter Try.func5, Try.ntmps5
      go_wp2_with (go_at_call 9; refine (begun_any _).mono ?_; rintro e w1 ⟨rfl, b1⟩)
      go_ret
      exact ⟨rfl, b1⟩
  · go_enter Try.func5, Try.ntmps5
    go_wp2_with (go_at_call 9; refine (begun_any _).mono ?_; rintro e w1 ⟨rfl, b1⟩)
    go_ret
    exact ⟨rfl, b1⟩
end Go.Proofs.Ytlgjoeabogbknaa
