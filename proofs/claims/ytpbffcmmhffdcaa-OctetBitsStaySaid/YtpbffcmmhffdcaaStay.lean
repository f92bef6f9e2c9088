/-
  The law OctetBitsStay walked: a bit that is set is told so, and no other one is turned.
-/
import Derived.Test.YtpbffcmmhffdcaaBeg
import Derived.Test.YtpbffcmmhffdcaaBit
namespace Go.Proofs.Ytpbffcmmhffdcaa
open Go.RowKit
set_option linter.unusedVariables false

theorem bitE_ok {l : List UInt8} {i : Int} (h0 : 0 ≤ i) (h1 : i / 8 < l.length) : bitE l i = 0 := by unfold bitE; rw [if_pos ⟨h0, h1⟩]
theorem setL_ok {l : List UInt8} {i : Int} {on : Bool} (h0 : 0 ≤ i) (h1 : i / 8 < l.length) : setL l i on = l.set (i / 8).toNat (bitSet (l.getD (i / 8).toNat 0) (i % 8).toNat on) := by
  unfold setL; rw [bitE_ok h0 h1, if_pos rfl]
theorem setL_len {l : List UInt8} {i : Int} {on : Bool} (h0 : 0 ≤ i) (h1 : i / 8 < l.length) : (setL l i on).length = l.length := by rw [setL_ok h0 h1, List.length_set]
theorem bitV_ok {l : List UInt8} {i : Int} (h0 : 0 ≤ i) (h1 : i / 8 < l.length) : bitV l i = bitOf (l.getD (i / 8).toNat 0) (i % 8).toNat := by
  unfold bitV; rw [bitE_ok h0 h1, if_pos rfl]
theorem bitV_same {l : List UInt8} {i : Int} {on : Bool} (h0 : 0 ≤ i) (h1 : i / 8 < l.length) : bitV (setL l i on) i = on := by
  rw [bitV_ok h0 (by rw [setL_len h0 h1]; exact h1), setL_ok h0 h1]
  have hlt : (i / 8).toNat < l.length := by omega
  rw [List.getD_eq_getElem?_getD, List.getElem?_set_self hlt, Option.getD_some]
  exact bit_same _ _ _ (by omega)
theorem bitV_other {l : List UInt8} {i k : Int} {on : Bool} (h0 : 0 ≤ i) (h1 : i / 8 < l.length) (k0 : 0 ≤ k) (k1 : k / 8 < l.length) (hne : i ≠ k) : bitV (setL l i on) k = bitV l k := by
  rw [bitV_ok k0 (by rw [setL_len h0 h1]; exact k1), bitV_ok k0 k1, setL_ok h0 h1]
  have hlt : (i / 8).toNat < l.length := by omega
  by_cases he : (i / 8).toNat = (k / 8).toNat
  · rw [← he, List.getD_eq_getElem?_getD, List.getElem?_set_self hlt, Option.getD_some]
    exact bit_other _ _ _ _ (by omega) (by omega) (by omega)
  · rw [List.getD_eq_getElem?_getD, List.getElem?_set_ne he, ← List.getD_eq_getElem?_getD]

set_option maxHeartbeats 1000000 in
theorem stay_any (A : Option Addr) (l : List UInt8) (n c : Nat) (i k : Int) (on : Bool) (w : World) (h : HasB w w.heap.size A n l) (hn : n ≤ maxLen)
    (hi : -9223372036854775808 ≤ i ∧ i ≤ 9223372036854775807) (hk : -9223372036854775808 ≤ k ∧ k ≤ 9223372036854775807) :
    Calls Try.prog 10 #[.slice A n c, .int .i64 i, .int .i64 k, .bool on] w (RetTrue w) := by
  unfold maxLen at hn
  by_cases c1 : n ≤ 4096
  · by_cases c2 : 0 ≤ i
    · by_cases c3 : 0 ≤ k
      · by_cases c4 : i / 8 < n
        · by_cases c5 : k / 8 < n
          · have hl := h.len
            have e1 := bitE_ok c2 (l := l) (by omega)
            have e2 := bitE_ok c3 (l := l) (by omega)
            have f0 := setL_len (on := on) c2 (l := l) (by omega)
            have e3 := bitE_ok c2 (l := setL l i on) (by omega)
            have e4 := bitE_ok c3 (l := setL l i on) (by omega)
            have f1 := bitV_same (on := on) c2 (l := l) (by omega)
            have f2 : i ≠ k → bitV (setL l i on) k = bitV l k := fun hne => bitV_other c2 (by omega) c3 (by omega) hne
            have hset := fun (W : World) (hW : HasB W W.heap.size A n l) => setbit_any A l n c i on W hW (by omega) hi
            have hbk := fun (W : World) (hW : HasB W W.heap.size A n l) => bit_any A l n c k W hW (by omega) hk
            rw [e1] at hset
            rw [e2] at hbk
            generalize hL : setL l i on = l' at *
            have hbi' := fun (W : World) (A' : Option Addr) (c' : Nat) (hW : HasB W W.heap.size A' n l') => bit_any A' l' n c' i W hW (by omega) hi
            have hbk' := fun (W : World) (A' : Option Addr) (c' : Nat) (hW : HasB W W.heap.size A' n l') => bit_any A' l' n c' k W hW (by omega) hk
            rw [e3, f1] at hbi'
            rw [e4] at hbk'
            generalize hv1 : bitV l' k = v1 at *
            generalize hv2 : bitV l k = v2 at *
            clear hv1 hv2 hL e1 e2 e3 e4 f1
            have F0 := Lib.hid f0
            have HL := Lib.hid hl
            clear f0 hl
            have HS := Lib.hid hset
            have HK := Lib.hid hbk
            have HI' := Lib.hid hbi'
            have HK' := Lib.hid hbk'
            clear hset hbk hbi' hbk'
            by_cases hik : i = k
            all_goals
              first
                | (have t : (i == k) = true := by simpa using hik)
                | (have t : (i == k) = false := by simpa using hik
                   have f3 : v1 = v2 := f2 hik
                   subst f3)
              clear f2 hik
              go_enter Try.func10, Try.ntmps10
              go_wp2_with fail
              refine (begun_any _).mono ?_
              rintro e w1 ⟨rfl, hb1⟩
              go_wp2_with fail
              refine (HS.out _ (h.on hb1)).mono ?_
              rintro e w2 ⟨A2, n2, c2', rfl, hown2, hb2⟩
              have hn2 : n2 = n := by have := hown2.len; have := F0.out; have := HL.out; omega
              subst hn2
              go_wp2_with fail
              refine (HI'.out _ _ _ hown2.has).mono ?_
              rintro e w2 ⟨rfl, rfl⟩
              go_wp2_with fail
              refine (HK'.out _ _ _ hown2.has).mono ?_
              rintro e w2 ⟨rfl, rfl⟩
              go_wp2_with fail
              refine (HK.out _ ((h.on hb1).on hb2)).mono ?_
              rintro e w2 ⟨rfl, rfl⟩
              go_wp2_with fail
              go_ret
              exact ⟨rfl, hb1.trans (hb2.mono hb1.size)⟩
          · obtain ⟨i1, i2⟩ := hi
            obtain ⟨k1, k2⟩ := hk
            go_enter Try.func10, Try.ntmps10
            go_wp2_with fail
            refine (begun_any _).mono ?_
            rintro e w1 ⟨rfl, hb1⟩
            go_wp2_with fail
            go_ret
            exact ⟨rfl, hb1⟩
        · obtain ⟨i1, i2⟩ := hi
          obtain ⟨k1, k2⟩ := hk
          go_enter Try.func10, Try.ntmps10
          go_wp2_with fail
          refine (begun_any _).mono ?_
          rintro e w1 ⟨rfl, hb1⟩
          go_wp2_with fail
          go_ret
          exact ⟨rfl, hb1⟩
      · obtain ⟨i1, i2⟩ := hi
        obtain ⟨k1, k2⟩ := hk
        go_enter Try.func10, Try.ntmps10
        go_wp2_with fail
        refine (begun_any _).mono ?_
        rintro e w1 ⟨rfl, hb1⟩
        go_wp2_with fail
        go_ret
        exact ⟨rfl, hb1⟩
    · obtain ⟨i1, i2⟩ := hi
      obtain ⟨k1, k2⟩ := hk
      go_enter Try.func10, Try.ntmps10
      go_wp2_with fail
      refine (begun_any _).mono ?_
      rintro e w1 ⟨rfl, hb1⟩
      go_wp2_with fail
      go_ret
      exact ⟨rfl, hb1⟩
  · obtain ⟨i1, i2⟩ := hi
    obtain ⟨k1, k2⟩ := hk
    go_enter Try.func10, Try.ntmps10
    go_wp2_with fail
    refine (begun_any _).mono ?_
    rintro e w1 ⟨rfl, hb1⟩
    go_wp2_with fail
    go_ret
    exact ⟨rfl, hb1⟩
end Go.Proofs.Ytpbffcmmhffdcaa
