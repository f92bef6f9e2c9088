/-
  The law ShaEnds walked: texts of every length about the ends of blocks.
-/
import Derived.Test.YtlgjoeabogbknaaRs
import Derived.Test.YtlgjoeabogbknaaNone
import Derived.Test.YtlgjoeabogbknaaLaw0
namespace Go.Proofs.Ytlgjoeabogbknaa
open Go.RowKit
set_option linter.unusedVariables false
set_option linter.unusedSimpArgs false

theorem place_any (k : Int) (n : Nat) (w : World) (hk : -9223372036854775808 ≤ k ∧ k ≤ 9223372036854775807) (hn : 1 ≤ n) (hm : n ≤ 1073741824) :
    Calls Try.prog 23 #[.int .i64 k, .int .i64 (n : Int)] w fun e w' => (∃ j : Nat, j < n ∧ e = .returned (.int .i64 (j : Int))) ∧ w = w' := by
  have h1 : -(n : Int) < k.tmod n := by
    have := Int.lt_tmod_of_pos k (b := n) (by omega)
    exact this
  have h2 : k.tmod n < n := Int.tmod_lt_of_pos k (by omega)
  obtain ⟨r, hr⟩ : ∃ r, k.tmod n = r := ⟨_, rfl⟩
  rw [hr] at h1 h2
  obtain ⟨h3, h4⟩ := hk
  go_enter Try.func23, Try.ntmps23
  go_wp2
  all_goals go_ret
  · exact ⟨⟨(r + n).toNat, by omega, by show Ending.returned (.int .i64 (r + n)) = _; rw [Int.toNat_of_nonneg (by omega)]⟩, rfl⟩
  · exact ⟨⟨r.toNat, by omega, by show Ending.returned (.int .i64 r) = _; rw [Int.toNat_of_nonneg (by omega)]⟩, rfl⟩

/-- Of one slice that a call lays. -/
theorem has_one {W : World} {A : Option Addr} {n c : Nat} {a : List UInt8} (ha : HasB W W.heap.size A n a) (hc : n ≤ c) :
    HasBB (W.alloc (.cells #[.slice A n c] 29)) (W.alloc (.cells #[.slice A n c] 29)).heap.size (some ⟨W.heap.size, 0, none⟩) 1 [a] := by
  refine ⟨rfl, fun _ => ⟨W.heap.size, 0, rfl, by simp, fun i l hi => ?_⟩⟩
  have hrow := heap_alloc_new W (.cells #[.slice A n c] 29)
  rcases i with _ | i
  · simp only [List.getElem?_cons_zero, Option.some.injEq] at hi
    subst hi
    exact ⟨A, n, c, by rw [cell_of_row _ _ _ _ _ _ hrow]; rfl, hc, (ha.alloc (Nat.le_refl _) _).more (by simp)⟩
  · simp at hi
theorem of_one {W : World} {A : Option Addr} {n c : Nat} {a : List UInt8} (ha : HasB W W.heap.size A n a) (hc : n ≤ c) (hn : n ≤ 1073741824) :
    Calls Try.prog 15 #[.slice (some ⟨W.heap.size, 0, none⟩) 1 1] (W.alloc (.cells #[.slice A n c] 29)) (RetID (W.alloc (.cells #[.slice A n c] 29)) (sumS a)) := by
  have := of_any _ 1 1 [a] _ (has_one ha hc) (by omega) (by have := ha.len; simp; omega)
  simpa using this

set_option maxRecDepth 100000 in
set_option maxHeartbeats 600000 in
theorem ends_law (k c : Int) (w : World) (hk : -9223372036854775808 ≤ k ∧ k ≤ 9223372036854775807) (hc : 0 ≤ c ∧ c ≤ 255) :
    Calls Try.prog 7 #[.int .i64 k, .int .u8 c] w (RetTrue w) := by
  have HK := Lib.hid hk
  clear hk
  obtain ⟨hc1, hc2⟩ := hc
  go_enter Try.func7, Try.ntmps7
  go_wp2_with (first
    | (go_at_call 9; refine (begun_any _).mono ?_; rintro e w1 ⟨rfl, b1⟩
       have B1 := Lib.hid b1
       clear b1)
    | (go_at_call 23; refine (place_any k 401 _ HK.out (by omega) (by omega)).mono ?_; rintro e w2 ⟨⟨m, hm, rfl⟩, rfl⟩)
    | (at_make; refine wp_mk _ rfl _ _ rfl Try.underlying29 infoU8 w1.heap.size _ _ _ _ m rfl rfl rfl rfl (by omega) (Nat.le_refl _) ?_; intro w3 hown3 hb3))
  have O3 := Lib.hid hown3
  have b3 : Below w.heap.size w w3 := B1.out.trans (hb3.mono B1.out.size)
  have B3 := Lib.hid b3
  have h13 := B1.out.size
  have H13 := Lib.hid h13
  clear hown3 hb3 b3 B1 h13
  go_loopw [6] (fun x wr => ∃ (j : Nat) (l : List UInt8), j ≤ m ∧ x = .int .i64 (j : Int) ∧ l.length = m ∧ OwnB wr w1.heap.size (.slice (some ⟨w1.heap.size, 0, none⟩) m m) l ∧ Below w.heap.size w wr) (fun x _ => m - (intOf x).toNat)
  case atStart => exact ⟨0, List.replicate m 0, by omega, rfl, by simp, O3.out, B3.out⟩
  case round =>
    obtain ⟨j, l, hj, rfl, hl, hown, hbel⟩ := hrel
    by_cases hlt : j < m
    · obtain ⟨g, e, _, _, hcell⟩ := hown.head (by omega)
      simp only [Option.some.injEq, Addr.mk.injEq, and_true] at e
      subst e
      obtain ⟨y, hy⟩ : ∃ y, l[j]? = some y := ⟨_, List.getElem?_eq_getElem (by omega)⟩
      have cc := hcell j y hy
      have ff := hown.frozen j
      have O := Lib.hid hown
      have HB := Lib.hid hbel
      have HL := Lib.hid hl
      clear hown hbel hcell hy hl
      go_wp2_with fail
      go_roundw
      case rel => exact ⟨j + 1, l.set j (UInt8.ofNat (c.toNat + j)), by omega, by go_num, by rw [List.length_set]; exact HL.out, O.out.set_ (by rw [u8_of]; omega), HB.out.setCell (p := ⟨w1.heap.size, j, none⟩) H13.out _⟩
      case measure => simp [intOf]; omega
    · obtain rfl : j = m := by omega
      have hh := hown.has
      have ho := of_one hh (Nat.le_refl _) (by omega)
      have HO := Lib.hid ho
      have HH := Lib.hid hh
      have HB := Lib.hid hbel
      clear hh ho hown hbel
      go_wp2_with (first
        | (go_at_call 15; refine HO.out.mono ?_; rintro e w8 ⟨rfl, b8⟩
           have b8a := (Below.refl wr.heap.size wr).alloc (Nat.le_refl _) (.cells #[.slice (some ⟨w1.heap.size, 0, none⟩) j j] 29)
           have b8b := b8a.trans (b8.mono (by simp))
           have b8' := HB.out.trans (b8b.mono HB.out.size)
           have hs8 := rsum_any _ j j l w8 (HH.out.on b8b) (by omega)
           have B8 := Lib.hid b8'
           have HS8 := Lib.hid hs8
           clear b8 b8a b8b b8' hs8)
        | (go_at_call 24; refine HS8.out.mono ?_; rintro e w9 ⟨rfl, b9⟩
           have b9' := B8.out.trans (b9.mono B8.out.size)
           have B9 := Lib.hid b9'
           clear b9 b9')
        | (refine wpList_eqlG rfl 31 31 (.tmp 27) (.tmp 29) rfl (.agg (cellsB (sumS l)).toArray) (.agg (cellsB (sumS l)).toArray) true rfl rfl (guard_id _ _ _ _ _) (eql_id_same _ (sum_len _) _) ?_))
      go_ret
      exact ⟨rfl, B9.out⟩
end Go.Proofs.Ytlgjoeabogbknaa
