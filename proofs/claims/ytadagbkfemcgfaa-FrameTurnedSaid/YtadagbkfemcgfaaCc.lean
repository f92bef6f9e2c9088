/-
  Own work. slices.Concat and bytes.Clone at bytes.
-/
import Derived.Test.YtadagbkfemcgfaaOf
import Derived.Lib.AppendZeros
import Derived.Lib.SliceRun
namespace Go.Proofs.Ytadagbkfemcgfaa
open Go.RowKit
set_option linter.unusedVariables false
set_option linter.unusedSimpArgs false

set_option maxRecDepth 100000 in
theorem bclone_any (A : Option Addr) (n c : Nat) (l : List UInt8) (w : World) (h : HasB w w.heap.size A n l) (hn : n ≤ 1073741824) :
    Calls Try.prog 37 #[.slice A n c] w (RetB w l) := by
  have hl := h.len
  have qS : ∀ (w : World) (a : Option Addr) (n c n' c' : Nat), (binOp .eql 24 (.slice a n c) (.slice none n' c')).run Try.prog w = .ok (.bool a.isNone) w := fun w a n c n' c' => Lib.run_eql_slice_nil w _ _ a n c n' c' Try.underlying24
  cases A with
  | none =>
    have h0 : ¬ 0 < n := fun hp => by obtain ⟨g, o, e, _⟩ := h.2 hp; cases e
    have hnil : l = [] := List.eq_nil_of_length_eq_zero (by omega)
    subst hnil
    clear h
    go_enter Try.func37, Try.ntmps37
    go_wp2_with fail
    go_ret
    exact ⟨_, _, _, rfl, OwnB.nil _ _, Below.refl _ _⟩
  | some ad =>
    have H := Lib.hid h
    have HL := Lib.hid hl
    clear h hl
    go_enter Try.func37, Try.ntmps37
    go_wp2_with (at_builtin; refine wp_app rfl (.tmp 5) (.tmp 6) rfl Try.underlying24 infoU8 w.heap.size _ [] l rfl (OwnB.empty w) w.heap.size (some ad) n c rfl (H.out.alloc (Nat.le_refl _) _) (by rw [← HL.out]; simp; omega) (by simp) ?_; intro A2 n2 c2 w2 hown2 hg2 hb2)
    go_ret
    exact ⟨_, _, _, rfl, hown2, ((Below.refl _ w).alloc (Nat.le_refl _) _).trans hb2⟩

theorem own_zeros (w : World) (n c : Nat) (hc : c ≤ maxLen) (cs : Array Value) (hcs : cs.size = c) :
    OwnB (w.drew.alloc (.cells cs 5)) w.heap.size (.slice (some ⟨w.heap.size, 0, none⟩) 0 c) [] := by
  refine ⟨rfl, .inr ⟨w.heap.size, c, cs, rfl, Nat.le_refl _, ?_, Nat.zero_le _, hc, by rw [hcs]; simp, by simp [cellsB]⟩⟩
  exact heap_alloc_new w.drew _
set_option maxRecDepth 100000 in
theorem grow_any (n : Nat) (w : World) (h0 : 0 < n) (hn : n ≤ 70368744177664) :
    Calls Try.prog 62 #[.slice none 0 0, .int .i64 (n : Int)] w (RetB w []) := by
  obtain ⟨i0, hi0, hz0, hz1, hz2⟩ := info_parts infoU8
  have hr : ∀ ty, (Builtin.append_ #[24, 3] ty #[.slice none 0 0, .int .i64 (n : Int)]).run Try.prog w = .ok (.slice (some ⟨w.heap.size, 0, none⟩) n (grownCap w n 0 5)) (w.drew.alloc (.cells (Builtin.zeroCells (Value.int .u8 0).cells n ++ Builtin.zeroCells (Value.int .u8 0).cells (grownCap w n 0 5 - n)) 5)) :=
    fun ty => Lib.run_append_nil_zeros w _ _ ty _ i0 _ _ _ Try.underlying24 Try.underlying3 hi0 hz0 n h0 (by omega) (by omega) (by rw [hz2]; omega)
  have hge := grownCap_ge w n 0 5
  have hle := grownCap_le_maxLen w n 0 5 (by simp only [maxLen]; omega)
  obtain ⟨C, hC⟩ : ∃ C, grownCap w n 0 5 = C := ⟨_, rfl⟩
  rw [hC] at hr hge hle
  obtain ⟨cs, hcs⟩ : ∃ cs, Builtin.zeroCells (Value.int .u8 0).cells n ++ Builtin.zeroCells (Value.int .u8 0).cells (C - n) = cs := ⟨_, rfl⟩
  rw [hcs] at hr
  have hsz : cs.size = C := by rw [← hcs]; simp [Builtin.zeroCells, Value.cells]; omega
  have HR := Lib.hid hr
  have OWN := Lib.hid (own_zeros w n C hle cs hsz)
  clear hr hC hcs hsz hi0 hz0 hz1 hz2
  go_enter Try.func62, Try.ntmps62
  go_wp2_with (at_builtin; refine Lib.wpList_append_run _ rfl (.tmp 20) (.tmp 21) _ _ rfl _ _ rfl rfl _ _ (HR.out _) ?_)
  go_ret
  exact ⟨_, _, _, rfl, OWN.out, ((Below.refl _ w).drew).alloc (Nat.le_refl _) _⟩
set_option maxRecDepth 100000 in
set_option maxHeartbeats 1000000 in
theorem concat_any (A : Option Addr) (n c : Nat) (ls : List (List UInt8)) (w : World) (h : HasBB w w.heap.size A n ls) (hn : n ≤ 1073741824) (h0 : 0 < ls.flatten.length) (hlen : ls.flatten.length ≤ 1073741824) :
    Calls Try.prog 33 #[.slice A n c] w (RetB w ls.flatten) := by
  have HS := Lib.hid h
  have HN := Lib.hid h.1
  have H0 := Lib.hid h0
  clear h h0
  go_enter Try.func33, Try.ntmps33
  go_wp2_with fail
  go_loop [3, 11] (fun s i => ∃ k : Nat, k ≤ n ∧ i = .int .i64 (k : Int) ∧ s = .int .i64 (((ls.take k).flatten.length : Nat) : Int)) (fun _ i => n - (intOf i).toNat)
  case atStart => exact ⟨0, by omega, rfl, rfl⟩
  case round =>
    obtain ⟨k, hk, rfl, rfl⟩ := hrel
    have hfl := flat_len ls k
    by_cases hlt : k < n
    · obtain ⟨l, hl⟩ : ∃ l, ls[k]? = some l := ⟨_, List.getElem?_eq_getElem (by rw [← HN.out]; exact hlt)⟩
      obtain ⟨k0, o0, rfl, hk0, hc0⟩ := HS.out.2 (by omega)
      obtain ⟨Ai, ni, ci, hcell, hni, hhas⟩ := hc0 k l hl
      have hsn : (ls.take (k + 1)).flatten.length = (ls.take k).flatten.length + ni := by rw [flat_snoc ls k l hl, List.length_append, hhas.len]
      have hf2 := flat_len ls (k + 1)
      rw [hsn] at hf2
      have HSN := Lib.hid hsn
      clear hl hc0 hhas hsn
      generalize (ls.take k).flatten.length = F at *
      go_wp2_with fail
      go_round
      case rel => exact ⟨k + 1, by omega, by go_num, by rw [HSN.out]; go_num⟩
      case measure => simp [intOf]; omega
    · obtain rfl : k = n := by omega
      have hT : (ls.take k).flatten.length = ls.flatten.length := by rw [List.take_of_length_le (by rw [← HN.out]; exact Nat.le_refl _)]
      rw [hT]
      have GR := Lib.hid (grow_any ls.flatten.length w H0.out (by omega))
      obtain ⟨F, hF⟩ : ∃ F, ls.flatten.length = F := ⟨_, rfl⟩
      rw [hF] at GR hlen ⊢
      have HLF := Lib.hid hF
      clear hT hfl hF
      go_wp2_with (first
        | (go_at_call 62; refine GR.out.mono ?_; rintro e w1 ⟨A1, n1, c1, rfl, o1, b1⟩
           have O1 := Lib.hid o1
           have B1 := Lib.hid b1
           clear o1 b1))
      go_loopw [6, 27] (fun s i wr => ∃ (k2 : Nat) (A2 : Option Addr) (n2 c2 : Nat), k2 ≤ k ∧ i = .int .i64 (k2 : Int) ∧ s = .slice A2 n2 c2 ∧ OwnB wr w.heap.size (.slice A2 n2 c2) (ls.take k2).flatten ∧ Below w.heap.size w wr) (fun _ i _ => k - (intOf i).toNat)
      case atStart => exact ⟨0, A1, n1, c1, by omega, rfl, rfl, O1.out, B1.out⟩
      case round =>
        obtain ⟨k2, A2, n2, c2, hk2, rfl, rfl, own2, bel2⟩ := hrel
        by_cases hlt : k2 < k
        · obtain ⟨l, hl⟩ : ∃ l, ls[k2]? = some l := ⟨_, List.getElem?_eq_getElem (by rw [← HN.out]; exact hlt)⟩
          obtain ⟨k0, o0, rfl, hk0, hc0⟩ := HS.out.2 (by omega)
          obtain ⟨Ai, ni, ci, hcell, hni, hhas⟩ := hc0 k2 l hl
          have hcw : wr.cell? ⟨k0, o0 + k2, none⟩ = some (.slice Ai ni ci) := (bel2.cell (p := ⟨k0, o0 + k2, none⟩) hk0).trans hcell
          have hsn := flat_snoc ls k2 l hl
          have hf2 := flat_len ls (k2 + 1)
          rw [hsn, List.length_append] at hf2
          have HSN := Lib.hid hsn
          have OW := Lib.hid own2
          have HH := Lib.hid (hhas.below bel2)
          have BL := Lib.hid bel2
          have HF2 := Lib.hid hf2
          have hBs := bel2.size
          clear hl hc0 hcell hhas hsn own2 bel2 hf2
          go_wp2_with (first
            | (at_builtin; refine wp_app rfl _ _ rfl Try.underlying24 infoU8 w.heap.size _ _ l rfl OW.out w.heap.size Ai ni ci rfl HH.out (by have := HF2.out; have := HLF.out; omega) hBs ?_; intro A3 n3 c3 w3 hown3 hg3 hb3
               have O3 := Lib.hid hown3
               have B3 := Lib.hid (BL.out.trans hb3)
               clear hown3 hg3 hb3))
          go_roundw
          case rel => exact ⟨k2 + 1, _, _, _, by omega, by go_num, rfl, by rw [HSN.out]; exact O3.out, B3.out⟩
          case measure => simp [intOf]; omega
        · obtain rfl : k2 = k := by omega
          rw [List.take_of_length_le (by rw [← HN.out]; exact Nat.le_refl _)] at own2
          go_wp2_with fail
          go_ret
          exact ⟨_, _, _, rfl, own2, bel2⟩
end Go.Proofs.Ytadagbkfemcgfaa
