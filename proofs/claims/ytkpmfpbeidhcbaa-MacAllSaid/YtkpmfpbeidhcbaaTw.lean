/-
  Own work. Contracts of cofferlaw0's Sum, Twins and AllKept over lists of bytes.
-/
import Derived.Test.YtkpmfpbeidhcbaaLs
import Derived.Test.YtkpmfpbeidhcbaaTk
import Derived.Deep.RegionHeld3
namespace Go.Proofs.Ytkpmfpbeidhcbaa
open Go.RowKit
set_option linter.unusedVariables false
set_option linter.unusedSimpArgs false

theorem flat_get (ls : List (List UInt8)) (k : Nat) (l : List UInt8) (h : ls[k]? = some l) : l.length ≤ ls.flatten.length := by
  have h1 := flat_len ls (k + 1)
  rw [flat_snoc ls k l h, List.length_append] at h1
  omega
/-- How many bytes there are, at most a little more than M. -/
def SumTo (M : Nat) (ls : List (List UInt8)) (r : Nat) : Prop := (ls.flatten.length ≤ M → r = ls.flatten.length) ∧ (M < ls.flatten.length → M < r) ∧ r ≤ 2 * M + 1

set_option maxRecDepth 100000 in
theorem lsum_any (A : Option Addr) (n c M : Nat) (ls : List (List UInt8)) (w : World) (h : HasBB w w.heap.size A n ls) (hn : n ≤ 1073741824) (hM : M ≤ 1073741824) :
    Calls Try.prog 9 #[.slice A n c, .int .i64 (M : Int)] w fun e w' => (∃ r : Nat, SumTo M ls r ∧ e = .returned (.int .i64 (r : Int))) ∧ w = w' := by
  have HS := Lib.hid h
  have HN := Lib.hid h.1
  clear h
  go_enter Try.func9, Try.ntmps9
  go_wp2_with fail
  go_loop [5, 6] (fun s x => ∃ (t k : Nat), s = .int .i64 (t : Int) ∧ x = .int .i64 (k : Int) ∧ k ≤ n ∧ t = (ls.take k).flatten.length ∧ t ≤ 2 * M) (fun _ x => n - (intOf x).toNat)
  case atStart => exact ⟨0, 0, rfl, rfl, by omega, rfl, by omega⟩
  case round =>
    obtain ⟨t, k, rfl, rfl, hk, ht, htm⟩ := hrel
    have hfl := flat_len ls k
    have HT := Lib.hid ht
    have HF := Lib.hid hfl
    clear ht hfl
    by_cases hlt : k < n
    · by_cases hle : t ≤ M
      · obtain ⟨l, hl⟩ : ∃ l, ls[k]? = some l := ⟨_, List.getElem?_eq_getElem (by rw [← HN.out]; exact hlt)⟩
        obtain ⟨k0, o0, rfl, hk0, hc0⟩ := HS.out.2 (by omega)
        obtain ⟨Ai, ni, ci, hcell, hni, hhas⟩ := hc0 k l hl
        have hnl := hhas.len
        have hsn := flat_snoc ls k l hl
        have hg := flat_get ls k l hl
        have hs2 : (ls.take (k + 1)).flatten.length = t + ni := by rw [hsn, List.length_append, HT.out, hnl]
        have hg2 : ni ≤ ls.flatten.length := by omega
        have HS2 := Lib.hid hs2
        have HG2 := Lib.hid hg2
        clear hc0 hhas hnl hsn hg hs2 hg2 hl
        by_cases hbig : M < ni
        · go_wp2_with fail
          go_ret
          refine ⟨⟨M + 1, ⟨fun q => ?_, fun _ => by omega, by omega⟩, by simp⟩, rfl⟩
          have := HG2.out
          omega
        · go_wp2_with fail
          go_round
          case rel => exact ⟨t + ni, k + 1, by go_num, by go_num, by omega, HS2.out.symm, by omega⟩
          case measure => simp [intOf]; omega
      · go_wp2_with fail
        go_ret
        refine ⟨⟨t, ⟨fun q => ?_, fun _ => by omega, by omega⟩, rfl⟩, rfl⟩
        have h1 := HF.out
        have h2 := HT.out
        omega
    · obtain rfl : k = n := by omega
      have h2 := HT.out
      rw [List.take_of_length_le (by rw [← HN.out]; exact Nat.le_refl _)] at h2
      have HT2 := Lib.hid h2
      clear h2
      by_cases hle : t ≤ M
      · go_wp2_with fail
        go_ret
        refine ⟨⟨t, ⟨fun q => HT2.out, fun q => ?_, by omega⟩, rfl⟩, rfl⟩
        have h2 := HT2.out
        omega
      · go_wp2_with fail
        go_ret
        refine ⟨⟨t, ⟨fun q => HT2.out, fun q => ?_, by omega⟩, rfl⟩, rfl⟩
        omega

/-- Slices hs that are twins of ls. -/
def TwinsP (w : World) (base : Nat) (hs : List Value) (ls : List (List UInt8)) : Prop :=
  hs.length = ls.length ∧ ∀ (i : Nat) (l : List UInt8), ls[i]? = some l → ∃ (Ai : Option Addr), hs[i]? = some (Value.slice Ai l.length (l.length + 3)) ∧ TwinB w base Ai l
section
variable {w w' : World} {base b n c : Nat} {A : Option Addr} {v : Value} {hs : List Value} {ls : List (List UInt8)} {l : List UInt8}
theorem TwinB.less {base' : Nat} (h : TwinB w base A l) (hb : base' ≤ base) : TwinB w base' A l := by
  obtain ⟨g, e, ho⟩ := h
  exact ⟨g, e, ho.less hb⟩
theorem TwinB.grownL (h : TwinB w base A l) (ho : OwnL w b v hs) (hg : w.grownBy w' v.ownBlock) : TwinB w' base A l := by
  obtain ⟨g, e, h2⟩ := h
  exact ⟨g, e, h2.kept hg (ho.apart h2)⟩
theorem TwinsP.nil (w : World) (base : Nat) : TwinsP w base [] [] := ⟨rfl, fun i l h => by simp at h⟩
theorem TwinsP.below (h : TwinsP w base hs ls) (hb : Below w.heap.size w w') : TwinsP w' base hs ls :=
  ⟨h.1, fun i l hl => by
    obtain ⟨Ai, h1, h2⟩ := h.2 i l hl
    exact ⟨Ai, h1, h2.below hb⟩⟩
theorem TwinsP.grownL (h : TwinsP w base hs ls) (ho : OwnL w b v hs) (hg : w.grownBy w' v.ownBlock) : TwinsP w' base hs ls :=
  ⟨h.1, fun i l hl => by
    obtain ⟨Ai, h1, h2⟩ := h.2 i l hl
    exact ⟨Ai, h1, h2.grownL ho hg⟩⟩
theorem TwinsP.snoc (h : TwinsP w base hs ls) (ha : TwinB w base A l) : TwinsP w base (hs ++ [.slice A l.length (l.length + 3)]) (ls ++ [l]) := by
  refine ⟨by simp [h.1], fun i x hx => ?_⟩
  by_cases hi : i < ls.length
  · rw [List.getElem?_append_left hi] at hx
    obtain ⟨Ai, h1, h2⟩ := h.2 i x hx
    exact ⟨Ai, by rw [List.getElem?_append_left (by rw [h.1]; exact hi)]; exact h1, h2⟩
  · rw [List.getElem?_append_right (by omega)] at hx
    rcases hq : i - ls.length with _ | q
    · rw [hq] at hx
      simp only [List.getElem?_cons_zero, Option.some.injEq] at hx
      subst hx
      exact ⟨A, by rw [List.getElem?_append_right (by rw [h.1]; omega), h.1, hq]; rfl, ha⟩
    · rw [hq] at hx
      simp at hx
end

/-- What Twins hands back. -/
def RetTwins (w : World) (ls : List (List UInt8)) (e : Ending) (w' : World) : Prop :=
  ∃ (A : Option Addr) (n c : Nat) (hs : List Value), e = .returned (.slice A n c) ∧ OwnL w' w.heap.size (.slice A n c) hs ∧ TwinsP w' w.heap.size hs ls ∧ Below w.heap.size w w'

set_option maxRecDepth 100000 in
set_option maxHeartbeats 600000 in
theorem twins_any (A : Option Addr) (n c : Nat) (ls : List (List UInt8)) (w : World) (h : HasBB w w.heap.size A n ls) (hn : n ≤ 8192) (hf : ls.flatten.length ≤ 1073741824) :
    Calls Try.prog 11 #[.slice A n c] w (RetTwins w ls) := by
  have HS := Lib.hid h
  have HN := Lib.hid h.1
  clear h
  go_enter Try.func11, Try.ntmps11
  go_wp2_with fail
  go_loopw [3, 4] (fun s x wr => ∃ (A' : Option Addr) (n' c' k : Nat) (hs : List Value), s = .slice A' n' c' ∧ x = .int .i64 (k : Int) ∧ k ≤ n ∧ OwnL wr w.heap.size (.slice A' n' c') hs ∧ TwinsP wr w.heap.size hs (ls.take k) ∧ Below w.heap.size w wr) (fun _ x _ => n - (intOf x).toNat)
  case atStart => exact ⟨none, 0, 0, 0, [], rfl, rfl, by omega, OwnL.nil _ _, TwinsP.nil _ _, Below.refl _ _⟩
  case round =>
    obtain ⟨A', n', c', k, hs, rfl, rfl, hk, hown, htw, hbel⟩ := hrel
    by_cases hlt : k < n
    · obtain ⟨l, hl⟩ : ∃ l, ls[k]? = some l := ⟨_, List.getElem?_eq_getElem (by rw [← HN.out]; exact hlt)⟩
      obtain ⟨k0, o0, rfl, hk0, hc0⟩ := HS.out.2 (by omega)
      obtain ⟨Ai, ni, ci, hcell, hni, hhas⟩ := hc0 k l hl
      have hcw : wr.cell? ⟨k0, o0 + k, none⟩ = some (.slice Ai ni ci) := (hbel.cell (p := ⟨k0, o0 + k, none⟩) hk0).trans hcell
      have hg := flat_get ls k l hl
      have hnl := hhas.len
      have ct := twin_any Ai l ni ci wr ((hhas.below hbel).more hbel.size) (by omega)
      have htk : ls.take (k + 1) = ls.take k ++ [l] := by
        obtain ⟨hk2, rfl⟩ := List.getElem?_eq_some_iff.1 hl
        exact List.take_succ_eq_append_getElem hk2
      have hhl : hs.length = k := by rw [htw.1, List.length_take, ← HN.out]; omega
      have HTK := Lib.hid htk
      have CT := Lib.hid ct
      have HO := Lib.hid hown
      have HT := Lib.hid htw
      have HB := Lib.hid hbel
      have HNL := Lib.hid hnl
      have HHL := Lib.hid hhl
      clear hl hc0 hcell hg hnl ct htk hown htw hbel hhas hhl
      go_wp2_with (first
        | (go_at_call 10; refine CT.out.mono ?_; rintro e w3 ⟨A3, rfl, ht3, b3⟩
           have ho3 := HO.out.below b3
           have htw3 := HT.out.below b3
           have ht3' := ht3.less HB.out.size
           have b3' := HB.out.trans (b3.mono HB.out.size)
           have HO3 := Lib.hid ho3
           have HT3 := Lib.hid htw3
           have HX3 := Lib.hid ht3'
           have HB3 := Lib.hid b3'
           clear ht3 b3 ho3 htw3 ht3' b3')
        | (at_builtin; refine wp_appL rfl (.tmp 11) (.tmp 17) rfl Try.underlying23 infoSl w.heap.size _ hs (.slice A3 ni (ni + 3)) rfl (HO3.out.alloc _) w3.heap.size 0 1 rfl (by rw [cell_of_row _ _ _ _ _ _ (heap_alloc_new w3 _)]; rfl) rfl (by have := HHL.out; omega) (by have := HB3.out.size; simp; omega) ?_; intro A6 n6 c6 w6 hown6 hg6 hb6))
      have hba : Below w3.heap.size w3 (w3.alloc (.cells #[.slice A3 ni (ni + 3)] 22)) := (Below.refl _ _).alloc (Nat.le_refl _) _
      have ht6 := ((HT3.out.below hba).grownL (HO3.out.alloc _) hg6).snoc ((HX3.out.below hba).grownL (HO3.out.alloc _) hg6)
      rw [← HTK.out, ← HNL.out] at ht6
      go_roundw
      case rel => exact ⟨A6, n6, c6, k + 1, _, rfl, by go_num, by omega, hown6, ht6, (HB3.out.alloc HB3.out.size _).trans hb6⟩
      case measure => simp [intOf]; omega
    · obtain rfl : k = n := by omega
      rw [List.take_of_length_le (by rw [← HN.out]; exact Nat.le_refl _)] at htw
      have HO := Lib.hid hown
      have HT := Lib.hid htw
      have HB := Lib.hid hbel
      clear hown htw hbel
      go_wp2_with fail
      go_ret
      exact ⟨A', n', c', hs, rfl, HO.out, HT.out, HB.out⟩

/-- What Kept needs of a world, behind a name. -/
structure KeptS (w W : World) (base : Nat) (Ai Ci : Option Addr) (ni : Nat) (l : List UInt8) : Prop where
  tw : TwinB W base Ai l
  has : HasB W W.heap.size Ci ni l
  bel : Below w.heap.size w W
theorem KeptS.drew {w W : World} {base : Nat} {Ai Ci : Option Addr} {ni : Nat} {l : List UInt8} (h : KeptS w W base Ai Ci ni l) : KeptS w W.drew base Ai Ci ni l := ⟨h.tw, h.has, h.bel.drew⟩

set_option maxRecDepth 100000 in
set_option maxHeartbeats 600000 in
theorem allKept_any (A A2 : Option Addr) (n c n2 c2 base : Nat) (hs : List Value) (ls : List (List UInt8)) (w : World) (ho : OwnL w base (.slice A n c) hs) (ht : TwinsP w base hs ls) (h : HasBB w w.heap.size A2 n2 ls) (hn : n2 ≤ 8192) (hf : ls.flatten.length ≤ 1073741824) :
    Calls Try.prog 18 #[.slice A n c, .slice A2 n2 c2] w fun e w' => e = .returned (.bool true) ∧ Below w.heap.size w w' := by
  have hnn : n = n2 := by rw [ho.len, ht.1, h.1]
  subst hnn
  have HO := Lib.hid ho
  have HT := Lib.hid ht
  have HS := Lib.hid h
  have HN := Lib.hid h.1
  clear ho ht h
  go_enter Try.func18, Try.ntmps18
  go_wp2_with fail
  go_loopw [5] (fun x wr => ∃ k : Nat, x = .int .i64 (k : Int) ∧ k ≤ n ∧ Below w.heap.size w wr) (fun x _ => n - (intOf x).toNat)
  case atStart => exact ⟨0, rfl, by omega, Below.refl _ _⟩
  case round =>
    obtain ⟨k, rfl, hk, hbel⟩ := hrel
    by_cases hlt : k < n
    · obtain ⟨l, hl⟩ : ∃ l, ls[k]? = some l := ⟨_, List.getElem?_eq_getElem (by rw [← HN.out]; exact hlt)⟩
      obtain ⟨k0, o0, rfl, hk0, hc0⟩ := HS.out.2 (by omega)
      obtain ⟨Ci, ni, ci, hcell, hni, hhas⟩ := hc0 k l hl
      obtain ⟨g, rfl, _, hgl, hgc⟩ := HO.out.at_ (by omega)
      obtain ⟨Ai, hAi, htw⟩ := HT.out.2 k l hl
      have hg := flat_get ls k l hl
      have hnl := hhas.len
      rw [← hnl] at hAi
      have c1 : wr.cell? ⟨g, k, none⟩ = some (.slice Ai ni (ni + 3)) := (hbel.cell (p := ⟨g, k, none⟩) hgl).trans (hgc k _ hAi)
      have c2' : wr.cell? ⟨k0, o0 + k, none⟩ = some (.slice Ci ni ci) := (hbel.cell (p := ⟨k0, o0 + k, none⟩) hk0).trans hcell
      have ht2 : TwinB wr base Ai l := htw.below hbel
      have hh2 : HasB wr wr.heap.size Ci ni l := hhas.on hbel
      have hni2 : ni ≤ 1073741824 := by omega
      have hks : KeptS w wr base Ai Ci ni l := ⟨ht2, hh2, hbel⟩
      clear hl hc0 hcell hhas hgl hgc hAi htw hg hnl ht2 hh2 hbel
      go_wp2_with fail
      go_region_held3 (fun W => W.cell? ⟨g, k, none⟩ = some (.slice Ai ni (ni + 3)) ∧ W.cell? ⟨k0, o0 + k, none⟩ = some (.slice Ci ni ci) ∧ KeptS w W base Ai Ci ni l)
        (refine ⟨?_, ?_, ?_⟩ <;> (first | exact c1 | exact c2' | exact hks.drew | assumption | go_keep))
        (first | (go_at_call 17; refine (kept_any Ai Ci l ni ci base _ hks.drew.tw hks.drew.has hni2).mono ?_; rintro e w1 ⟨rfl, rfl⟩))
      go_wp2_with fail
      go_roundw
      case rel => exact ⟨k + 1, by go_num, by omega, hks.drew.bel⟩
      case measure => simp [intOf]; omega
    · obtain rfl : k = n := by omega
      have HB := Lib.hid hbel
      clear hbel
      go_wp2_with fail
      go_ret
      exact ⟨by simp, HB.out⟩
/-- Twins read as what they are twins of. -/
theorem TwinsP.has {w : World} {base b n c : Nat} {A : Option Addr} {hs : List Value} {ls : List (List UInt8)} (h : TwinsP w b hs ls) (ho : OwnL w base (.slice A n c) hs) : HasBB w w.heap.size A n ls := by
  refine ⟨by rw [ho.len, h.1], fun hn => ?_⟩
  obtain ⟨g, e, _, hlt, hc⟩ := ho.at_ hn
  refine ⟨g, 0, e, hlt, fun i l hl => ?_⟩
  obtain ⟨Ai, h1, h2⟩ := h.2 i l hl
  exact ⟨Ai, l.length, l.length + 3, by rw [Nat.zero_add]; exact hc i _ h1, by omega, h2.has rfl⟩
end Go.Proofs.Ytkpmfpbeidhcbaa
