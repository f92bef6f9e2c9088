/-
  Own work. The contract of cofferlaw0's Cut: bytes in pieces.
-/
import Derived.Test.YtlgjoeabogbknaaLs
import Derived.Test.YtlgjoeabogbknaaEn
namespace Go.Proofs.Ytlgjoeabogbknaa
open Go.RowKit
set_option linter.unusedVariables false
set_option linter.unusedSimpArgs false

/-- Slices hs that read as the pieces ls. -/
def Pieces (w : World) (B : Nat) (hs : List Value) (ls : List (List UInt8)) : Prop :=
  hs.length = ls.length ∧ ∀ (i : Nat) (l : List UInt8), ls[i]? = some l → ∃ (Ai : Option Addr) (ni ci : Nat), hs[i]? = some (Value.slice Ai ni ci) ∧ ni ≤ ci ∧ HasB w B Ai ni l
section
variable {w w' : World} {B base n c : Nat} {A : Option Addr} {hs : List Value} {ls : List (List UInt8)} {l : List UInt8}
theorem Pieces.nil (w : World) (B : Nat) : Pieces w B [] [] := ⟨rfl, fun i l h => by simp at h⟩
theorem Pieces.below (h : Pieces w B hs ls) (hb : Below B w w') : Pieces w' B hs ls :=
  ⟨h.1, fun i l hl => by
    obtain ⟨Ai, ni, ci, h1, h2, h3⟩ := h.2 i l hl
    exact ⟨Ai, ni, ci, h1, h2, h3.below hb⟩⟩
theorem Pieces.snoc (h : Pieces w B hs ls) (ha : HasB w B A n l) (hc : n ≤ c) : Pieces w B (hs ++ [.slice A n c]) (ls ++ [l]) := by
  refine ⟨by simp [h.1], fun i x hx => ?_⟩
  by_cases hi : i < ls.length
  · rw [List.getElem?_append_left hi] at hx
    obtain ⟨Ai, ni, ci, h1, h2, h3⟩ := h.2 i x hx
    exact ⟨Ai, ni, ci, by rw [List.getElem?_append_left (by rw [h.1]; exact hi)]; exact h1, h2, h3⟩
  · rw [List.getElem?_append_right (by omega)] at hx
    rcases hq : i - ls.length with _ | q
    · rw [hq] at hx
      simp only [List.getElem?_cons_zero, Option.some.injEq] at hx
      subst hx
      exact ⟨A, n, c, by rw [List.getElem?_append_right (by rw [h.1]; omega), h.1, hq]; rfl, hc, ha⟩
    · rw [hq] at hx
      simp at hx
theorem Pieces.has (h : Pieces w B hs ls) (ho : OwnL w base (.slice A n c) hs) (hB : B ≤ w.heap.size) : HasBB w w.heap.size A n ls := by
  refine ⟨by rw [ho.len, h.1], fun hn => ?_⟩
  obtain ⟨g, e, _, hlt, hc⟩ := ho.at_ hn
  refine ⟨g, 0, e, hlt, fun i l hl => ?_⟩
  obtain ⟨Ai, ni, ci, h1, h2, h3⟩ := h.2 i l hl
  exact ⟨Ai, ni, ci, by rw [Nat.zero_add]; exact hc i _ h1, h2, h3.more hB⟩
end

/-- What Cut hands back: pieces that are together bs. -/
def RetCut (B : Nat) (w : World) (bs : List UInt8) (e : Ending) (w' : World) : Prop :=
  ∃ (A : Option Addr) (n c : Nat) (hs : List Value) (ls : List (List UInt8)), e = .returned (.slice A n c) ∧ OwnL w' w.heap.size (.slice A n c) hs ∧ Pieces w' B hs ls ∧ ls.flatten = bs ∧ n ≤ 1025 ∧ Below w.heap.size w w'

set_option maxRecDepth 100000 in
set_option maxHeartbeats 800000 in
theorem cut_any (A A1 : Option Addr) (B n c n1 c1 : Nat) (bs : List UInt8) (zs : List Int) (w : World) (h : HasB w B A n bs) (hB : B ≤ w.heap.size) (h1 : HasI w w.heap.size A1 n1 zs) (hc : n ≤ c) (hcm : c ≤ maxLen) (hn : n ≤ 1073741824) (hn1 : n1 ≤ 1024) :
    Calls Try.prog 19 #[.slice A n c, .slice A1 n1 c1] w (RetCut B w bs) := by
  unfold maxLen at hcm
  have H := Lib.hid h
  have H1 := Lib.hid h1
  clear h h1
  go_enter Try.func19, Try.ntmps19
  go_wp2_with fail
  go_loopw [0, 5, 6] (fun s0 s5 x wr => ∃ (A0 A5 : Option Addr) (m c0 n5 c5 k : Nat) (rest : List UInt8) (hs : List Value) (done : List (List UInt8)), s0 = .slice A0 m c0 ∧ s5 = .slice A5 n5 c5 ∧ x = .int .i64 (k : Int) ∧ m ≤ c0 ∧ c0 ≤ c ∧ m ≤ n ∧ k ≤ n1 ∧ hs.length = k ∧
    HasB wr B A0 m rest ∧ OwnL wr w.heap.size (.slice A5 n5 c5) hs ∧ Pieces wr B hs done ∧ done.flatten ++ rest = bs ∧ Below w.heap.size w wr) (fun _ _ x _ => n1 - (intOf x).toNat)
  case atStart => exact ⟨A, none, n, c, 0, 0, 0, bs, [], [], rfl, rfl, rfl, hc, Nat.le_refl _, Nat.le_refl _, by omega, rfl, H.out, OwnL.nil _ _, Pieces.nil _ _, rfl, Below.refl _ _⟩
  case round =>
    obtain ⟨A0, A5, m, c0, n5, c5, k, rest, hs, done, rfl, rfl, rfl, hmc, hcc, hmn, hk, hkl, hrest, hown, hpc, hfl, hbel⟩ := hrel
    by_cases hlt : k < n1
    · by_cases hpos : 0 < m
      · obtain ⟨g, o, rfl, hg, hcell⟩ := hrest.2 hpos
        obtain ⟨g1, o1, rfl, hg1, hc1⟩ := H1.out.2.2 (by omega)
        have hz0 := H1.out.1
        obtain ⟨z, hz⟩ : ∃ z, zs[k]? = some z := ⟨_, List.getElem?_eq_getElem (by omega)⟩
        have hzb := H1.out.2.1 z (List.mem_of_getElem? hz)
        have hzc : wr.cell? ⟨g1, o1 + k, none⟩ = some (.int .i64 z) := (hbel.cell (p := ⟨g1, o1 + k, none⟩) hg1).trans (hc1 k z hz)
        have CP := fun W => place_any z m W hzb (by omega) (by omega)
        have HCP := Lib.hid CP
        have HR := Lib.hid hrest
        have HO := Lib.hid hown
        have HP := Lib.hid hpc
        have HF := Lib.hid hfl
        have HB := Lib.hid hbel
        have HKL := Lib.hid hkl
        clear hz0 hz hzb hcell hc1 CP hrest hown hpc hfl hbel hkl
        go_wp2_with (first
          | (go_at_call 23; refine (HCP.out _).mono ?_; rintro e w2 ⟨⟨j, hj, rfl⟩, rfl⟩)
          | (at_builtin; refine wp_appL rfl (.tmp 27) (.tmp 31) rfl Try.underlying22 infoSl w.heap.size _ hs (.slice (some ⟨g, o, none⟩) (j + 1) c0) rfl (HO.out.alloc _) wr.heap.size 0 1 rfl (by rw [cell_of_row _ _ _ _ _ _ (heap_alloc_new wr _)]; rfl) rfl (by have := HKL.out; omega) (by have := HB.out.size; simp; omega) ?_; intro A6 n6 c6 w6 hown6 hg6 hb6))
        have hb7 : Below w.heap.size wr w6 := ((Below.refl _ _).alloc HB.out.size _).trans hb6
        have hr7 := HR.out.below (hb7.mono hB)
        have w1 : HasB w6 B (some ⟨g, o, none⟩) (j + 1) ((rest.drop 0).take (j + 1)) := hr7.window (k := 0) (s := j + 1) (by omega) rfl (fun _ => rfl)
        have w2 : HasB w6 B (if c0 = j + 1 then some ⟨g, o, none⟩ else some ⟨g, o + (j + 1), none⟩) (m - (j + 1)) ((rest.drop (j + 1)).take (m - (j + 1))) := hr7.window (k := j + 1) (s := m - (j + 1)) (by omega) rfl (fun hp => by rw [if_neg (by omega)])
        have hml := hr7.len
        rw [List.drop_zero] at w1
        rw [List.take_of_length_le (by rw [List.length_drop]; omega)] at w2
        have hp7 := (HP.out.below (hb7.mono hB)).snoc w1 (show j + 1 ≤ c0 by omega)
        have hf7 : (done ++ [rest.take (j + 1)]).flatten ++ rest.drop (j + 1) = bs := by
          rw [List.flatten_append, List.flatten_singleton, List.append_assoc, List.take_append_drop]
          exact HF.out
        go_roundw
        case rel => exact ⟨_, A6, _, _, n6, c6, k + 1, rest.drop (j + 1), _, _, rfl, rfl, by go_num, by omega, by omega, by omega, by omega, by rw [List.length_append, HKL.out]; rfl, w2, hown6, hp7, hf7, HB.out.trans hb7⟩
        case measure => simp [intOf]; omega
      · obtain rfl : m = 0 := by omega
        have hre : rest = [] := List.eq_nil_of_length_eq_zero hrest.len.symm
        subst hre
        have hn5 := hown.len
        have HO := Lib.hid hown
        have HF := Lib.hid hfl
        have HB := Lib.hid hbel
        have HP := Lib.hid hpc
        have HN5 := Lib.hid hn5
        have HKL := Lib.hid hkl
        clear hown hpc hfl hbel hkl hn5 hrest
        go_wp2_with fail
        go_ret
        exact ⟨A5, n5, c5, hs, done, rfl, HO.out, HP.out, by simpa using HF.out, by have := HN5.out; have := HKL.out; omega, HB.out⟩
    · obtain rfl : k = n1 := by omega
      by_cases hpos : 0 < m
      · have HR := Lib.hid hrest
        have HO := Lib.hid hown
        have HP := Lib.hid hpc
        have HF := Lib.hid hfl
        have HB := Lib.hid hbel
        have HKL := Lib.hid hkl
        clear hrest hown hpc hfl hbel hkl
        go_wp2_with (first
          | (at_builtin; refine wp_appL rfl (.tmp 39) (.tmp 41) rfl Try.underlying22 infoSl w.heap.size _ hs (.slice A0 m c0) rfl (HO.out.alloc _) wr.heap.size 0 1 rfl (by rw [cell_of_row _ _ _ _ _ _ (heap_alloc_new wr _)]; rfl) rfl (by have := HKL.out; omega) (by have := HB.out.size; simp; omega) ?_; intro A6 n6 c6 w6 hown6 hg6 hb6))
        have hb7 : Below w.heap.size wr w6 := ((Below.refl _ _).alloc HB.out.size _).trans hb6
        have hb8 := HB.out.trans hb7
        have hp7 := (HP.out.below (hb7.mono hB)).snoc (HR.out.below (hb7.mono hB)) hmc
        have hn6 := hown6.len
        rw [List.length_append, HKL.out] at hn6
        have hn7 : n6 ≤ 1025 := by simp at hn6; omega
        have HH := Lib.hid hp7
        have HO6 := Lib.hid hown6
        have HN := Lib.hid hn7
        have HB8 := Lib.hid hb8
        clear hn6 hn7 hp7 hown6 hb7 hb8
        go_ret
        refine ⟨A6, n6, c6, _, _, rfl, HO6.out, HH.out, ?_, HN.out, HB8.out⟩
        rw [List.flatten_append, List.flatten_singleton]
        exact HF.out
      · obtain rfl : m = 0 := by omega
        have hre : rest = [] := List.eq_nil_of_length_eq_zero hrest.len.symm
        subst hre
        have hn5 := hown.len
        have HO := Lib.hid hown
        have HF := Lib.hid hfl
        have HB := Lib.hid hbel
        have HP := Lib.hid hpc
        have HN5 := Lib.hid hn5
        have HKL := Lib.hid hkl
        clear hown hpc hfl hbel hkl hn5 hrest
        go_wp2_with fail
        go_ret
        exact ⟨A5, n5, c5, hs, done, rfl, HO.out, HP.out, by simpa using HF.out, by have := HN5.out; have := HKL.out; omega, HB.out⟩
end Go.Proofs.Ytlgjoeabogbknaa
