/-
  Own work. header: bytes of a forged header; what is in them does not matter.
-/
import Derived.Test.YthfmkdeglceppaaTc
import Derived.BigRegion
import Derived.RegionTactic
namespace Go.Proofs.Ythfmkdeglceppaa
open Go.RowKit Go.Maps
set_option linter.unusedVariables false
set_option linter.unusedSimpArgs false

theorem cellsB_set {l : List UInt8} {i : Nat} {Y : Int} (h : 0 ≤ Y ∧ Y < 256) : (cellsB l).set i (.int .u8 Y) = cellsB (l.set i (UInt8.ofNat Y.toNat)) := by
  have h1 : ((UInt8.ofNat Y.toNat).toNat : Int) = Y := by rw [UInt8.toNat_ofNat']; omega
  unfold cellsB
  rw [List.map_set, h1]
/-- A row of 512 bytes of the call's own. -/
def Row5 (w : World) (base g : Nat) : Prop := ∃ l : List UInt8, l.length = 512 ∧ OwnV 5 w base (.slice (some ⟨g, 0, none⟩) 512 512) (cellsB l)
theorem OwnV.below' {E : TypeId} {w w' : World} {base : Nat} {v : Value} {hs : List Value} (h : OwnV E w base v hs) (hb : Below w.heap.size w w') : OwnV E w' base v hs := h.below hb
theorem Row5.set {w : World} {base g i : Nat} {Y : Int} (h : Row5 w base g) (hi : i < 512) (hY : 0 ≤ Y ∧ Y < 256) : Row5 (w.setCell ⟨g, i, none⟩ (.int .u8 Y)) base g := by
  obtain ⟨l, hl, o⟩ := h
  have o2 := o.set (k := i) (u := .int .u8 Y) (by simp [cellsB, hl, hi]) rfl
  rw [cellsB_set hY] at o2
  exact ⟨_, by simp [hl], o2⟩
theorem Row5.cell {w : World} {base g i : Nat} (h : Row5 w base g) (hi : i < 512) : ∃ v, w.cell? ⟨g, i, none⟩ = some v ∧ w.frozen? ⟨g, i, none⟩ = false := by
  obtain ⟨l, hl, o⟩ := h
  have hlen : (cellsB l).length = 512 := by simp [cellsB, hl]
  obtain ⟨g', e', _, _, hc⟩ := o.at_ (by omega)
  injection e' with e'
  injection e' with e'
  subst e'
  refine ⟨_, hc i _ (List.getElem?_eq_getElem (by omega)), ?_⟩
  rcases o.form with ⟨e, _⟩ | ⟨g', c', cur, e, _, _, hg, _⟩
  · cases e
  · simp only [Value.slice.injEq, Option.some.injEq, Addr.mk.injEq, and_true] at e
    obtain ⟨rfl, -, -⟩ := e
    exact frozen_of_row w g i _ _ hg
theorem Row5.drewN {w : World} {base g : Nat} (h : Row5 w base g) (k : Nat) : Row5 (w.drewN k) base g := by
  obtain ⟨l, hl, o⟩ := h
  exact ⟨l, hl, o⟩
theorem u8_in (z : Int) : 0 ≤ IntKind.u8.wrap z ∧ IntKind.u8.wrap z < 256 := by
  unfold IntKind.wrap
  simp [IntKind.bits, IntKind.signed]
  omega
theorem Row5.of {w : World} {base g : Nat} (h : OwnB w base (.slice (some ⟨g, 0, none⟩) 512 512) (List.replicate 512 0)) : Row5 w base g := by
  refine ⟨List.replicate 512 0, List.length_replicate, ?_⟩
  unfold OwnB at h
  unfold OwnV
  rwa [show (cellsB (List.replicate 512 (0 : UInt8))).length = (List.replicate 512 (0 : UInt8)).length by unfold cellsB; rw [List.length_map]]
theorem m256 (z : Int) : 0 ≤ z % 256 ∧ z % 256 < 256 := by omega
set_option maxRecDepth 100000 in
set_option maxHeartbeats 4000000 in
theorem lheader_any {W : World} (T H : Int) (hT : 0 ≤ T ∧ T ≤ 18446744073709551615) (hH : -9223372036854775808 ≤ H ∧ H ≤ 9223372036854775807) :
    Calls Try.prog 27 #[.int .u64 T, .int .i64 H] W fun en W' => ∃ g, en = .returned (.slice (some ⟨g, 0, none⟩) 512 512) ∧ Row5 W' W.heap.size g ∧ Below W.heap.size W W' := by
  go_enter Try.func27, Try.ntmps27
  go_wp2_with (first
    | (at_make; refine wp_mk _ rfl _ _ rfl Try.underlying39 infoU8 W.heap.size _ _ _ _ 512 rfl rfl rfl rfl (by omega) (Nat.le_refl _) ?_; intro w1 own1 b1
       have R1 := Lib.hid (Row5.of own1)
       have B1 := Lib.hid b1
       clear own1 b1))
  go_loopw [6] (fun i wr => ∃ k : Nat, k ≤ 8 ∧ i = .int .i64 (k : Int) ∧ Row5 wr W.heap.size W.heap.size ∧ Below W.heap.size W wr) (fun i _ => 8 - (Go.RowKit.intOf i).toNat)
  case atStart => exact ⟨0, by omega, rfl, R1.out, B1.out⟩
  case round =>
    obtain ⟨k, hk, rfl, qr, qb⟩ := hrel
    obtain ⟨W1, rfl⟩ : ∃ W, W = wr := ⟨_, rfl⟩
    have QR := Lib.hid qr
    have QB := Lib.hid qb
    clear qr qb
    by_cases hlt : k < 8
    · obtain ⟨v1, c1, f1⟩ := QR.out.cell (i := 7 - k) (by omega)
      obtain ⟨v2, c2, f2⟩ := QR.out.cell (i := 511 - k) (by omega)
      rcases (show k = 0 ∨ k = 1 ∨ k = 2 ∨ k = 3 ∨ k = 4 ∨ k = 5 ∨ k = 6 ∨ k = 7 by omega) with rfl | rfl | rfl | rfl | rfl | rfl | rfl | rfl
      · (try simp only [Nat.sub_zero, Nat.reduceSub, Nat.sub_self] at c1 f1 c2 f2)
        go_wp2_with fail
        go_region
        go_wp2_with fail
        go_roundw
        case rel => exact ⟨1, by decide, rfl, ((QR.out.set (i := 7) (by decide) (m256 _)).set (i := 511) (by decide) (m256 _)).drewN 1, ((QB.out.setCell (Nat.le_refl _) _).setCell (Nat.le_refl _) _).drew⟩
        case measure => simp [Go.RowKit.intOf]
      · (try simp only [Nat.sub_zero, Nat.reduceSub, Nat.sub_self] at c1 f1 c2 f2)
        go_wp2_with fail
        go_region
        go_wp2_with fail
        go_roundw
        case rel => exact ⟨2, by decide, rfl, ((QR.out.set (i := 6) (by decide) (m256 _)).set (i := 510) (by decide) (m256 _)).drewN 1, ((QB.out.setCell (Nat.le_refl _) _).setCell (Nat.le_refl _) _).drew⟩
        case measure => simp [Go.RowKit.intOf]
      · (try simp only [Nat.sub_zero, Nat.reduceSub, Nat.sub_self] at c1 f1 c2 f2)
        go_wp2_with fail
        go_region
        go_wp2_with fail
        go_roundw
        case rel => exact ⟨3, by decide, rfl, ((QR.out.set (i := 5) (by decide) (m256 _)).set (i := 509) (by decide) (m256 _)).drewN 1, ((QB.out.setCell (Nat.le_refl _) _).setCell (Nat.le_refl _) _).drew⟩
        case measure => simp [Go.RowKit.intOf]
      · (try simp only [Nat.sub_zero, Nat.reduceSub, Nat.sub_self] at c1 f1 c2 f2)
        go_wp2_with fail
        go_region
        go_wp2_with fail
        go_roundw
        case rel => exact ⟨4, by decide, rfl, ((QR.out.set (i := 4) (by decide) (m256 _)).set (i := 508) (by decide) (m256 _)).drewN 1, ((QB.out.setCell (Nat.le_refl _) _).setCell (Nat.le_refl _) _).drew⟩
        case measure => simp [Go.RowKit.intOf]
      · (try simp only [Nat.sub_zero, Nat.reduceSub, Nat.sub_self] at c1 f1 c2 f2)
        go_wp2_with fail
        go_region
        go_wp2_with fail
        go_roundw
        case rel => exact ⟨5, by decide, rfl, ((QR.out.set (i := 3) (by decide) (m256 _)).set (i := 507) (by decide) (m256 _)).drewN 1, ((QB.out.setCell (Nat.le_refl _) _).setCell (Nat.le_refl _) _).drew⟩
        case measure => simp [Go.RowKit.intOf]
      · (try simp only [Nat.sub_zero, Nat.reduceSub, Nat.sub_self] at c1 f1 c2 f2)
        go_wp2_with fail
        go_region
        go_wp2_with fail
        go_roundw
        case rel => exact ⟨6, by decide, rfl, ((QR.out.set (i := 2) (by decide) (m256 _)).set (i := 506) (by decide) (m256 _)).drewN 1, ((QB.out.setCell (Nat.le_refl _) _).setCell (Nat.le_refl _) _).drew⟩
        case measure => simp [Go.RowKit.intOf]
      · (try simp only [Nat.sub_zero, Nat.reduceSub, Nat.sub_self] at c1 f1 c2 f2)
        go_wp2_with fail
        go_region
        go_wp2_with fail
        go_roundw
        case rel => exact ⟨7, by decide, rfl, ((QR.out.set (i := 1) (by decide) (m256 _)).set (i := 505) (by decide) (m256 _)).drewN 1, ((QB.out.setCell (Nat.le_refl _) _).setCell (Nat.le_refl _) _).drew⟩
        case measure => simp [Go.RowKit.intOf]
      · (try simp only [Nat.sub_zero, Nat.reduceSub, Nat.sub_self] at c1 f1 c2 f2)
        go_wp2_with fail
        go_region
        go_wp2_with fail
        go_roundw
        case rel => exact ⟨8, by decide, rfl, ((QR.out.set (i := 0) (by decide) (by omega)).set (i := 504) (by decide) (by omega)).drewN 1, ((QB.out.setCell (Nat.le_refl _) _).setCell (Nat.le_refl _) _).drew⟩
        case measure => simp [Go.RowKit.intOf]
    · obtain rfl : k = 8 := by omega
      obtain ⟨v1, c1, f1⟩ := QR.out.cell (i := 9) (by decide)
      obtain ⟨v2, c2, f2⟩ := QR.out.cell (i := 19) (by decide)
      go_wp2_with fail
      go_ret
      exact ⟨_, rfl, (QR.out.set (i := 9) (by decide) ⟨by decide, by decide⟩).set (i := 19) (by decide) (m256 _), (QB.out.setCell (Nat.le_refl _) _).setCell (Nat.le_refl _) _⟩
end Go.Proofs.Ythfmkdeglceppaa
