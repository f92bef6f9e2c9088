/-
  The law MacKeys walked: keys of every length about a block's.
-/
import Derived.Test.YtkpmfpbeidhcbaaMb3
import Derived.Test.YtkpmfpbeidhcbaaRr
import Derived.Test.YtkpmfpbeidhcbaaPl
import Derived.Test.YtkpmfpbeidhcbaaTk
namespace Go.Proofs.Ytkpmfpbeidhcbaa
open Go.RowKit
set_option linter.unusedVariables false
set_option linter.unusedSimpArgs false

set_option maxRecDepth 100000 in
set_option maxHeartbeats 600000 in
theorem keys_law (k c : Int) (A : Option Addr) (n cap : Nat) (b : List UInt8) (w : World) (hk : -9223372036854775808 ≤ k ∧ k ≤ 9223372036854775807) (hc : 0 ≤ c ∧ c ≤ 255) (hb : HasB w w.heap.size A n b) (hcap : n ≤ cap) (hmax : cap ≤ maxLen) :
    Calls Try.prog 7 #[.int .i64 k, .int .u8 c, .slice A n cap] w (RetTrue w) := by
  have HK := Lib.hid hk
  have HB := Lib.hid hb
  clear hk hb
  obtain ⟨u, rfl⟩ : ∃ u : UInt8, c = (u.toNat : Int) := ⟨UInt8.ofNat c.toNat, by rw [u8_of]; omega⟩
  clear hc
  unfold maxLen at hmax
  by_cases hbig : 1024 < n
  · go_enter Try.func7, Try.ntmps7
    go_wp2_with (first
      | (go_at_call 8; refine (begun_any _).mono ?_; rintro e w1 ⟨rfl, b1⟩
         have B1 := Lib.hid b1
         clear b1))
    go_ret
    exact ⟨rfl, B1.out⟩
  · go_enter Try.func7, Try.ntmps7
    go_wp2_with (first
      | (go_at_call 8; refine (begun_any _).mono ?_; rintro e w1 ⟨rfl, b1⟩
         have B1 := Lib.hid b1
         clear b1)
      | (go_at_call 20; refine (place_any k 201 _ HK.out (by omega) (by omega)).mono ?_; rintro e w2 ⟨⟨m, hm, rfl⟩, rfl⟩)
      | (at_make; refine wp_mk _ rfl _ _ rfl Try.underlying22 infoU8 w1.heap.size _ _ _ _ m rfl rfl rfl rfl (by omega) (Nat.le_refl _) ?_; intro w3 hown3 hb3))
    have O3 := Lib.hid hown3
    have b3 : Below w.heap.size w w3 := B1.out.trans (hb3.mono B1.out.size)
    have B3 := Lib.hid b3
    have h13 := B1.out.size
    have H13 := Lib.hid h13
    clear hown3 hb3 b3 B1 h13
    go_loopw [8] (fun x wr => ∃ (j : Nat) (l : List UInt8), j ≤ m ∧ x = .int .i64 (j : Int) ∧ l.length = m ∧ OwnB wr w1.heap.size (.slice (some ⟨w1.heap.size, 0, none⟩) m m) l ∧ Below w.heap.size w wr) (fun x _ => m - (intOf x).toNat)
    case atStart => exact ⟨0, List.replicate m 0, by omega, rfl, by simp, O3.out, B3.out⟩
    case round =>
      obtain ⟨j, l, hj, rfl, hl, hown, hbel⟩ := hrel
      by_cases hlt : j < m
      · obtain ⟨g, e, _, _, hcell⟩ := hown.head (by omega)
        simp only [Option.some.injEq, Addr.mk.injEq, and_true] at e
        subst e
        obtain ⟨y, hy⟩ : ∃ y, l[j]? = some y := ⟨_, List.getElem?_eq_getElem (by omega)⟩
        have cc := hcell j y hy
        have ff := hown.frozen j
        obtain ⟨z, hz⟩ : ∃ z, bits .xor .u8 (u.toNat : Int) (j : Int) = z := ⟨_, rfl⟩
        have e1 : z = ((u ^^^ UInt8.ofNat j).toNat : Int) := by
          rw [← hz, ← xor8, u8_of, Int.emod_eq_of_lt (by omega) (by omega)]
        have E1 := Lib.hid e1
        have O := Lib.hid hown
        have HBL := Lib.hid hbel
        have HL := Lib.hid hl
        clear hown hbel hcell hy hl e1
        go_wp2_with fail
        go_roundw
        case rel => exact ⟨j + 1, l.set j (u ^^^ UInt8.ofNat j), by omega, by go_num, by rw [List.length_set]; exact HL.out, O.out.set_ E1.out, HBL.out.setCell (p := ⟨w1.heap.size, j, none⟩) H13.out _⟩
        case measure => simp [intOf]; omega
      · obtain rfl : j = m := by omega
        have hh := hown.has
        have hb2 := HB.out.on hbel
        have ho := raw_any (some ⟨w1.heap.size, 0, none⟩) A j j n cap l b wr hh hb2 (Nat.le_refl _) hcap (by omega) (by omega)
        have ML := macS_len l b
        have HO := Lib.hid ho
        have HH := Lib.hid hh
        have HB2 := Lib.hid hb2
        have HBL := Lib.hid hbel
        have HML := Lib.hid ML
        clear hh ho hown hbel hb2 ML
        go_wp2_with (first
          | (go_at_call 15; refine HO.out.mono ?_; rintro e w8 ⟨rfl, b8⟩
             have hs8 := rraw_any (some ⟨w1.heap.size, 0, none⟩) A j j n cap l b w8 (HH.out.on b8) (HB2.out.on b8) (by omega) (by omega)
             have B8 := Lib.hid (HBL.out.trans (b8.mono HBL.out.size))
             have HS8 := Lib.hid hs8
             clear b8 hs8)
          | (go_at_call 16; refine HS8.out.mono ?_; rintro e w9 ⟨rfl, b9⟩
             have B9 := Lib.hid (B8.out.trans (b9.mono B8.out.size))
             clear b9)
          | (refine wpList_eqlG rfl 30 30 (.tmp 32) (.tmp 35) rfl (.agg (cellsB (macS l b)).toArray) (.agg (cellsB (macS l b)).toArray) true rfl rfl (guard_id _ _ _ _ _) (eql_id_same _ HML.out _) ?_))
        go_ret
        exact ⟨rfl, B9.out⟩
end Go.Proofs.Ytkpmfpbeidhcbaa
