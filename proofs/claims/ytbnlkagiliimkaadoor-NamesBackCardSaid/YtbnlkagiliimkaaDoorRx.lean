/-
  Own work. The contract of the document's answer's Hex.
-/
import Derived.Test.YtbnlkagiliimkaaDoorNp
namespace Go.Proofs.YtbnlkagiliimkaaDoor
open Go.RowKit
set_option linter.unusedVariables false
set_option linter.unusedSimpArgs false

set_option maxRecDepth 100000 in
set_option maxHeartbeats 1000000 in
theorem rhex_any (A : Option Addr) (n c : Nat) (l : List UInt8) (w : World) (h : HasB w w.heap.size A n l) (hn : n ≤ 1073741824) :
    Calls Tryd.prog 20 #[.slice A n c] w (RetStr w (hexL l)) := by
  have HL := Lib.hid h.len
  have HS := Lib.hid h
  clear h
  go_enter Tryd.func20, Tryd.ntmps20
  go_wp2_with fail
  go_loopw [3, 4] (fun s i wr => ∃ (k : Nat) (S : ByteArray), s = .string S ∧ S = ⟨(hexL (l.take k)).toArray⟩ ∧ k ≤ n ∧ i = .int .i64 (k : Int) ∧ Below w.heap.size w wr) (fun _ i _ => n - (intOf i).toNat)
  case atStart => exact ⟨0, _, rfl, rfl, by omega, rfl, Below.refl _ _⟩
  case round =>
    obtain ⟨k, S, rfl, hS, hk, rfl, hbel⟩ := hrel
    by_cases hlt : k < n
    · obtain ⟨y, hy⟩ : ∃ y, l[k]? = some y := ⟨_, List.getElem?_eq_getElem (by rw [← HL.out]; exact hlt)⟩
      obtain ⟨g1, o1, rfl, _, c1⟩ := (HS.out.below hbel).2 (by omega)
      have d1 := c1 k y hy
      have HY := Lib.hid hy
      have HSS := Lib.hid hS
      have HB := Lib.hid hbel
      have hyl := y.toNat_lt
      obtain ⟨q, hq⟩ : ∃ q : Nat, y.toNat / 16 = q := ⟨_, rfl⟩
      obtain ⟨r, hr⟩ : ∃ r : Nat, y.toNat % 16 = r := ⟨_, rfl⟩
      have q1 : (y.toNat : Int) / 16 = (q : Int) := by omega
      have r1 : (y.toNat : Int) % 16 = (r : Int) := by omega
      have q3 : q < 16 := by omega
      have r3 : r < 16 := by omega
      obtain ⟨X1, hX1⟩ : ∃ X1 : ByteArray, (⟨digL.toArray⟩ : ByteArray).extract q (q + 1) = X1 := ⟨_, rfl⟩
      obtain ⟨X2, hX2⟩ : ∃ X2 : ByteArray, (⟨digL.toArray⟩ : ByteArray).extract r (r + 1) = X2 := ⟨_, rfl⟩
      have E1 : Hid (X1 = ⟨[hexC q].toArray⟩) := Lib.hid (by rw [← hX1]; exact dig_ext ⟨q, q3⟩)
      have E2 : Hid (X2 = ⟨[hexC r].toArray⟩) := Lib.hid (by rw [← hX2]; exact dig_ext ⟨r, r3⟩)
      have s1 : X1.size = 1 := by rw [E1.out]; rfl
      have s2 : X2.size = 1 := by rw [E2.out]; rfl
      have s3 : S.size ≤ 4294967296 := by
        rw [hS]
        show (hexL (l.take k)).length ≤ _
        rw [hexL_len, List.length_take]
        omega
      have HQ := Lib.hid hq
      have HR := Lib.hid hr
      unfold digL at hX1 hX2
      clear hy c1 hS hbel hq hr
      go_wp2_with fail
      go_region
      go_wp2_with fail
      go_roundw
      case rel =>
        refine ⟨k + 1, S ++ X1 ++ X2, rfl, ?_, by omega, by go_num, HB.out.drew⟩
        rw [str_app _ _ _ _ (str_app _ _ _ _ HSS.out E1.out) E2.out, hexL_snoc l k y HY.out, HQ.out, HR.out, List.append_assoc]
        rfl
      case measure => simp [intOf]; omega
    · obtain rfl : k = n := by omega
      rw [List.take_of_length_le (by rw [← HL.out]; exact Nat.le_refl _)] at hS
      have HSS := Lib.hid hS
      have HB := Lib.hid hbel
      clear hS hbel
      go_wp2_with fail
      go_ret
      exact ⟨by rw [← HSS.out]; rfl, HB.out⟩
end Go.Proofs.YtbnlkagiliimkaaDoor
