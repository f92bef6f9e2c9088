/-
  The law MacAll walked: sums under a key are RFC 2104's of the parts, each behind its length.
-/
import Derived.Test.YtkpmfpbeidhcbaaMb3
import Derived.Test.YtkpmfpbeidhcbaaRf
import Derived.Test.YtkpmfpbeidhcbaaTw
import Derived.Test.YtkpmfpbeidhcbaaJn
namespace Go.Proofs.Ytkpmfpbeidhcbaa
open Go.RowKit
set_option linter.unusedVariables false
set_option linter.unusedSimpArgs false

set_option maxRecDepth 100000 in
set_option maxHeartbeats 1000000 in
theorem mall_ok (A B : Option Addr) (n c m d : Nat) (q : List UInt8) (ls : List (List UInt8)) (w : World) (h : HasB w w.heap.size A n q) (hb : HasBB w w.heap.size B m ls) (hc : n ≤ c) (hd : m ≤ d) (hn : n ≤ 4096) (hm : m ≤ 1024) (hf : ls.flatten.length ≤ 4096) :
    Calls Try.prog 3 #[.slice A n c, .slice B m d] w (RetTrue w) := by
  have hq := h.len
  have hml := hb.1
  have HA := Lib.hid h
  have HS := Lib.hid hb
  have HQ := Lib.hid hq
  have HM := Lib.hid hml
  have HF := Lib.hid hf
  obtain ⟨X, hX⟩ : ∃ X, macS q (lens ls).flatten = X := ⟨_, rfl⟩
  obtain ⟨Y, hY⟩ : ∃ Y, macS q ls.flatten = Y := ⟨_, rfl⟩
  have HXL : Hid (X.length = 32) := Lib.hid (by rw [← hX]; exact macS_len _ _)
  have HYL : Hid (Y.length = 32) := Lib.hid (by rw [← hY]; exact macS_len _ _)
  have HX := Lib.hid hX
  have HY := Lib.hid hY
  obtain ⟨N, hN⟩ : ∃ N, ls.flatten.length = N := ⟨_, rfl⟩
  have hN2 : N ≤ 4096 := by omega
  have sumN : ∀ W, Below w.heap.size w W → Calls Try.prog 9 #[.slice B m d, .int .i64 4096] W fun e w' => e = .returned (.int .i64 (N : Int)) ∧ W = w' := by
    intro W hb2
    refine (lsum_any B m d 4096 ls W (hb.on hb2) (by omega) (by omega)).mono ?_
    rintro e w' ⟨⟨r, hr, rfl⟩, rfl⟩
    exact ⟨by rw [hr.1 hf, hN], rfl⟩
  have HSN := Lib.hid sumN
  clear h hb hq hml hf hN sumN hX hY
  go_enter Try.func3, Try.ntmps3
  go_wp2_with (first
    | (go_at_call 8; refine (begun_any _).mono ?_; rintro e w1 ⟨rfl, b1⟩
       have B1 := Lib.hid b1
       clear b1)
    | (go_at_call 9; refine (HSN.out _ B1.out).mono ?_; rintro e w2 ⟨rfl, rfl⟩)
    | (go_at_call 10; refine (twin_any A q n c _ (HA.out.on B1.out) (by omega)).mono ?_; rintro e w2 ⟨A2, rfl, ht2, b2⟩
       have B2 := Lib.hid (B1.out.trans (b2.mono B1.out.size))
       have T2 := Lib.hid ht2
       clear ht2 b2)
    | (go_at_call 11; refine (twins_any B m d ls _ (HS.out.on B2.out) (by omega) (by have := HF.out; omega)).mono ?_; rintro e w3 ⟨A3, n3, c3, hs3, rfl, ho3, ht3, b3⟩
       have B3 := Lib.hid (B2.out.trans (b3.mono B2.out.size))
       have T3 := Lib.hid (T2.out.below b3)
       have O3 := Lib.hid ho3
       have P3 := Lib.hid ht3
       have N3 : Hid (n3 = m) := Lib.hid (by rw [ho3.len, ht3.1, HM.out])
       clear ho3 ht3 b3)
    | (go_at_call 12; refine (joined_any B m d ls _ (HS.out.on B3.out) (by omega) (by have := HF.out; omega)).mono ?_; rintro e w4 ⟨A4, n4, c4, rfl, hown4, b4⟩
       have hb4 := B3.out.trans (b4.mono B3.out.size)
       have t4 := T3.out.below b4
       have o4 := O3.out.below b4
       have p4 := P3.out.below b4
       have hl4 := hown4.len
       have hf4 := HF.out
       have hn3 := N3.out
       have hm4 := HM.out
       have hfl := lens_flat ls
       have C1 := Lib.hid (fun W (hW : Below w4.heap.size w4 W) => by
         have := mof_any A2 A3 n (n + 3) n3 c3 q ls W ((t4.below hW).has HQ.out) ((p4.below hW).has (o4.below hW)) (by omega) (by omega) (by omega) (by omega)
         rwa [HX.out] at this)
       have C2 := Lib.hid (fun W (hW : Below w4.heap.size w4 W) => by
         have := rmof_any A B n c m d q ls W (HA.out.on (hb4.trans (hW.mono hb4.size))) (HS.out.on (hb4.trans (hW.mono hb4.size))) (by omega) (by omega) (by omega)
         rwa [HX.out] at this)
       have C3 := Lib.hid (fun W (hW : Below w4.heap.size w4 W) => by
         have := raw_any A2 A4 n (n + 3) n4 c4 q ls.flatten W ((t4.below hW).has HQ.out) (hown4.has.on hW) (by omega) hown4.caps.1 (by omega) (by omega)
         rwa [HY.out] at this)
       have C4 := Lib.hid (fun W (hW : Below w4.heap.size w4 W) => by
         have := rraw_any A A4 n c n4 c4 q ls.flatten W (HA.out.on (hb4.trans (hW.mono hb4.size))) (hown4.has.on hW) (by omega) (by omega)
         rwa [HY.out] at this)
       have C5 := Lib.hid (fun W (hW : Below w4.heap.size w4 W) => kept_any A2 A q n c _ W (t4.below hW) (HA.out.on (hb4.trans (hW.mono hb4.size))) (by omega))
       have C6 := Lib.hid (fun W (hW : Below w4.heap.size w4 W) => allKept_any A3 B n3 c3 m d _ hs3 ls W (o4.below hW) (p4.below hW) (HS.out.on (hb4.trans (hW.mono hb4.size))) (by omega) (by omega))
       have B4 := Lib.hid hb4
       have R4 := Lib.hid (Below.refl w4.heap.size w4)
       clear t4 o4 p4 hown4 b4 hb4 hl4 hf4 hn3 hm4 hfl)
    | (go_at_call 13; refine (C1.out _ R4.out).mono ?_; rintro e w5 ⟨rfl, b5⟩
       have R5 := Lib.hid (R4.out.trans (b5.mono R4.out.size))
       clear b5)
    | (go_at_call 14; refine (C2.out _ R5.out).mono ?_; rintro e w6 ⟨rfl, b6⟩
       have R6 := Lib.hid (R5.out.trans (b6.mono R5.out.size))
       clear b6)
    | (refine wpList_eqlG rfl 30 30 (.tmp 31) (.tmp 34) rfl (.agg (cellsB X).toArray) (.agg (cellsB X).toArray) true rfl rfl (guard_id _ _ _ _ _) (eql_id_same _ HXL.out _) ?_)
    | (go_at_call 15; refine (C3.out _ R6.out).mono ?_; rintro e w7 ⟨rfl, b7⟩
       have R7 := Lib.hid (R6.out.trans (b7.mono R6.out.size))
       clear b7)
    | (go_at_call 16; refine (C4.out _ R7.out).mono ?_; rintro e w8 ⟨rfl, b8⟩
       have R8 := Lib.hid (R7.out.trans (b8.mono R7.out.size))
       clear b8)
    | (refine wpList_eqlG rfl 30 30 (.tmp 39) (.tmp 42) rfl (.agg (cellsB Y).toArray) (.agg (cellsB Y).toArray) true rfl rfl (guard_id _ _ _ _ _) (eql_id_same _ HYL.out _) ?_)
    | (go_at_call 17; refine (C5.out _ R8.out).mono ?_; rintro e w9 ⟨rfl, rfl⟩)
    | (go_at_call 18; refine (C6.out _ R8.out).mono ?_; rintro e w10 ⟨rfl, b10⟩
       have R10 := Lib.hid (R8.out.trans (b10.mono R8.out.size))
       clear b10))
  go_ret
  exact ⟨rfl, B4.out.trans (R10.out.mono B4.out.size)⟩

set_option maxRecDepth 100000 in
set_option maxHeartbeats 400000 in
theorem mall_law (A B : Option Addr) (n c m d : Nat) (q : List UInt8) (ls : List (List UInt8)) (w : World) (h : HasB w w.heap.size A n q) (hb : HasBB w w.heap.size B m ls) (hc : n ≤ c) (hd : m ≤ d) (hcm : c ≤ maxLen) (hdm : d ≤ maxLen) :
    Calls Try.prog 3 #[.slice A n c, .slice B m d] w (RetTrue w) := by
  unfold maxLen at hcm hdm
  by_cases hn : n ≤ 4096
  · by_cases hm : m ≤ 1024
    · by_cases hf : ls.flatten.length ≤ 4096
      · exact mall_ok A B n c m d q ls w h hb hc hd hn hm hf
      · have HS := Lib.hid hb
        clear h hb
        go_enter Try.func3, Try.ntmps3
        go_wp2_with (first
          | (go_at_call 8; refine (begun_any _).mono ?_; rintro e w1 ⟨rfl, b1⟩
             have B1 := Lib.hid b1
             clear b1)
          | (go_at_call 9; refine (lsum_any B m d 4096 ls _ (HS.out.on B1.out) (by omega) (by omega)).mono ?_; rintro e w2 ⟨⟨r, hr, rfl⟩, rfl⟩
             have hr1 : 4096 < r := hr.2.1 (by omega)
             have hr2 := hr.2.2
             clear hr))
        go_ret
        exact ⟨rfl, B1.out⟩
    · clear h hb
      go_enter Try.func3, Try.ntmps3
      go_wp2_with (go_at_call 8; refine (begun_any _).mono ?_; rintro e w1 ⟨rfl, b1⟩)
      go_ret
      exact ⟨rfl, b1⟩
  · clear h hb
    go_enter Try.func3, Try.ntmps3
    go_wp2_with (go_at_call 8; refine (begun_any _).mono ?_; rintro e w1 ⟨rfl, b1⟩)
    go_ret
    exact ⟨rfl, b1⟩
end Go.Proofs.Ytkpmfpbeidhcbaa
