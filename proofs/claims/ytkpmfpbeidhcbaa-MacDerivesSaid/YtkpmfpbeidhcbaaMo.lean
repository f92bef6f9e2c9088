/-
  Own work. The contract of mac's Of.
-/
import Derived.Test.YtkpmfpbeidhcbaaRw
import Derived.Test.YtkpmfpbeidhcbaaN8
namespace Go.Proofs.Ytkpmfpbeidhcbaa
open Go.RowKit
set_option linter.unusedVariables false
set_option linter.unusedSimpArgs false

/-- Each part behind its length. -/
def lens (ls : List (List UInt8)) : List (List UInt8) := ls.map fun l => be 8 l.length ++ l
theorem lens_at {ls : List (List UInt8)} {k : Nat} {l : List UInt8} (h : ls[k]? = some l) : (lens ls)[k]? = some (be 8 l.length ++ l) := by simp [lens, h]
theorem lens_len (ls : List (List UInt8)) : (lens ls).length = ls.length := by simp [lens]
theorem lens_flat (ls : List (List UInt8)) : (lens ls).flatten.length = 8 * ls.length + ls.flatten.length := by
  induction ls with
  | nil => rfl
  | cons l ls ih =>
    have e : (lens (l :: ls)).flatten = (be 8 l.length ++ l) ++ (lens ls).flatten := rfl
    rw [e, List.length_append, List.length_append, be_length, ih]
    simp
    omega
theorem OwnB.src {w w' : World} {base g n c : Nat} {A : Option Addr} {l : List UInt8} (h : OwnB w base (.slice A n c) l) (hg : g < base) : Src w g A n l :=
  Src.of_has h.has (Nat.le_refl _) (by
    rintro k o rfl
    have := (h.lt k rfl).1
    omega)

set_option maxRecDepth 100000 in
set_option maxHeartbeats 1000000 in
theorem mof_any (A B : Option Addr) (n c m d : Nat) (k : List UInt8) (ls : List (List UInt8)) (w : World) (h : HasB w w.heap.size A n k) (hb : HasBB w w.heap.size B m ls) (hc : n ≤ c) (hn : n ≤ 1073741824) (hm : m ≤ 8192) (hf : ls.flatten.length ≤ 1073741824) :
    Calls Try.prog 13 #[.slice A n c, .slice B m d] w (RetID w (macS k (lens ls).flatten)) := by
  have hml := hb.1
  have hfl := lens_flat ls
  have hk := keyL_len k
  have hx : (xorB 54 (keyL k)).length = 64 := by rw [xorB_len, hk]
  have ho := macS_len k (lens ls).flatten
  have CK : Calls Try.prog 24 #[.slice A n c] (w.alloc (.cells (cellsB (zer 32)).toArray 30)) (RetA (w.alloc (.cells (cellsB (zer 32)).toArray 30)) (keyL k)) :=
    keyBlock_any A n c k _ (h.on ((Below.refl _ _).alloc (Nat.le_refl _) _)) hc hn
  have CE : ∀ g W, HashD W g (xorB 54 (keyL k) ++ (lens ls).flatten) → Calls Try.prog 28 #[.agg (cellsB (keyL k)).toArray, .pointer (some ⟨g, 0, none⟩)] W (RetID W (macS k (lens ls).flatten)) := fun g W hD => end_any (keyL k) _ g W hk hD (by rw [List.length_append, hx]; omega)
  have CB : ∀ W, Calls Try.prog 25 #[.agg (cellsB (keyL k)).toArray] W (RetNew W (xorB 54 (keyL k))) := fun W => begin_any _ W hk
  generalize macS k (lens ls).flatten = O at CE ho ⊢
  generalize xorB 54 (keyL k) = X at CE CB hx
  generalize keyL k = K at CK CE CB hk
  have HS := Lib.hid hb
  have HM := Lib.hid hml
  have IV := Lib.hid (blk_iv K hk)
  have HZ := Lib.hid (blk_hz K hk)
  have IO := Lib.hid (id_iv O ho)
  have OZ := Lib.hid (id_hz O ho)
  have HX := Lib.hid hx
  have HCK := Lib.hid CK
  have HCB := Lib.hid CB
  have HCE := Lib.hid CE
  have HFL := Lib.hid hfl
  have HF := Lib.hid hf
  clear hml hk hx ho CK CE CB h hb hfl hf
  go_enter Try.func13, Try.ntmps13
  go_upto_region 2 with (first
    | (go_at_call 24; refine HCK.out.mono ?_; rintro e w1 ⟨rfl, hb1⟩
       have HB1 := Lib.hid hb1
       clear hb1)
    | (refine wpList_store_row rfl 45 (.tmp 5) (.tmp 10) rfl w1.heap.size (cellsB K).toArray rfl rfl 45 _ (Bw.new w1 (zer 64) 45) IV.out HZ.out (cellsB_ones _) ?_))
  generalize hw2 : World.setRow _ _ _ = w2
  have K2 : KeyW w w2 w1.heap.size K := by
    rw [← hw2]
    exact KeyW.mk' (HB1.out.mono (by simp))
  have HK2 := Lib.hid K2
  clear K2 hw2
  go_wp2_with (first
    | (refine wpList_load_row rfl 45 (.tmp 5) rfl w1.heap.size rfl 45 (cellsB K).toArray (0, 0) _ HK2.out.key Try.underlying45 rfl IV.out ?_)
    | (go_at_call 25; refine (HCB.out _).mono ?_; rintro e w3 ⟨g, rfl, hg, hd3, hb3⟩
       have HK3 := Lib.hid (HK2.out.on hb3)
       have HQ := Lib.hid (Nat.lt_of_lt_of_le HK2.out.key.lt hg)
       have HD3 := Lib.hid hd3
       clear hg hd3 hb3))
  go_loopw [15] (fun i wr => ∃ k : Nat, k ≤ m ∧ i = .int .i64 (k : Int) ∧ HashD wr g (X ++ ((lens ls).take k).flatten) ∧ KeyW w wr w1.heap.size K) (fun i _ => m - (intOf i).toNat)
  case atStart => exact ⟨0, by omega, rfl, by simpa using HD3.out, HK3.out⟩
  case round =>
    obtain ⟨k, hk, rfl, hD, hK⟩ := hrel
    by_cases hlt : k < m
    · obtain ⟨l, hl⟩ : ∃ l, ls[k]? = some l := ⟨_, List.getElem?_eq_getElem (by rw [← HM.out]; exact hlt)⟩
      obtain ⟨k0, o0, rfl, hk0, hc0⟩ := HS.out.2 (by omega)
      obtain ⟨Ai, ni, ci, hcell, hni, hhas⟩ := hc0 k l hl
      have hcw : wr.cell? ⟨k0, o0 + k, none⟩ = some (.slice Ai ni ci) := (hK.bel.cell (p := ⟨k0, o0 + k, none⟩) hk0).trans hcell
      have hsn := flat_snoc (lens ls) k _ (lens_at hl)
      have hll : (X ++ ((lens ls).take k).flatten).length + (be 8 l.length ++ l).length ≤ 4294967296 := by
        have h1 := flat_len (lens ls) (k + 1)
        have h2 := HFL.out
        have h3 := HF.out
        have h4 := HM.out
        rw [hsn, List.length_append] at h1
        rw [List.length_append, HX.out]
        omega
      have hnl := hhas.len
      have hle : l.length ≤ 1073741824 := by
        have h1 := flat_len ls (k + 1)
        rw [flat_snoc ls k l hl, List.length_append] at h1
        have := HF.out
        omega
      have hni2 : ni ≤ 1073741824 := by omega
      simp only [List.length_append, be_length] at hll
      rw [← hnl] at hsn hll
      have hgl := hD.lt
      have C8 := num8_any ni wr (by omega)
      have HC8 := Lib.hid C8
      have HHAS := Lib.hid hhas
      have HSN := Lib.hid hsn
      have HLL := Lib.hid hll
      have HDD := Lib.hid hD
      have HKK := Lib.hid hK
      have HGL := Lib.hid hgl
      have HNL := Lib.hid hnl
      clear hl hc0 hcell hhas hsn hll hnl hle hgl C8 hD hK
      go_wp2_with (first
        | (go_at_call 27; refine HC8.out.mono ?_; rintro e w4 ⟨A4, n4, c4, rfl, hown4, hb4⟩
           have hk4 := HKK.out.on hb4
           have hd4 := HDD.out.below hb4 HGL.out
           have hn4 := hown4.len
           rw [be_length] at hn4
           have hw4 := write_any g n4 c4 _ (be 8 ni) A4 w4 hd4 (hown4.src (w' := w4) HGL.out) hown4.caps.1 (by have := HLL.out; rw [List.length_append, be_length]; omega)
           have HW4 := Lib.hid hw4
           have HK4 := Lib.hid hk4
           clear hk4 hd4 hw4 hown4 hb4 hn4)
        | (go_at_call 26; refine HW5.out.mono ?_; rintro e w6 ⟨rfl, hd6, hg6⟩
           have HD6 := Lib.hid hd6
           have HK6 := Lib.hid (HK5.out.grown hg6 HQ.out)
           clear hd6 hg6)
        | (go_at_call 26; refine HW4.out.mono ?_; rintro e w5 ⟨rfl, hd5, hg5⟩
           have hk5 := HK4.out.grown hg5 HQ.out
           have hq := HQ.out
           have hq2 := HK2.out.lt
           have hw5 := write_any g ni ci _ l Ai w5 hd5 (Src.of_below (HHAS.out.below hk5.bel) (by omega) hd5.lt) hni (by have := HLL.out; have := HNL.out; rw [List.length_append, List.length_append, be_length]; omega)
           rw [List.append_assoc, List.append_assoc, ← HSN.out] at hw5
           have HW5 := Lib.hid hw5
           have HK5 := Lib.hid hk5
           clear hd5 hg5 hk5 hq hq2 hw5))
      go_roundw
      case rel => exact ⟨k + 1, by omega, by go_num, HD6.out, HK6.out⟩
      case measure => simp [intOf]; omega
    · obtain rfl : k = m := by omega
      rw [List.take_of_length_le (by rw [lens_len, ← HM.out]; exact Nat.le_refl _)] at hD
      have HE := Lib.hid (HCE.out g wr hD)
      have HK5 := Lib.hid hK
      clear hD hK
      go_wp2_with (first
        | (refine wpList_load_row rfl 45 (.tmp 5) rfl w1.heap.size rfl 45 (cellsB K).toArray (0, 0) _ HK5.out.key Try.underlying45 rfl IV.out ?_)
        | (go_at_call 28; refine HE.out.mono ?_; rintro e w6 ⟨rfl, hb6⟩
           have HK6 := Lib.hid (HK5.out.on hb6)
           clear hb6)
        | (refine wpList_store_row rfl 30 (.tmp 4) (.tmp 31) rfl w.heap.size (cellsB O).toArray rfl rfl 30 _ HK6.out.ans IO.out OZ.out (cellsB_ones _) ?_))
      refine bodyPost_ret (v := .agg (cellsB O).toArray) ?_ (by rfl) ?_
      · exact results_cell_row (p := 4) (ty := 30) rfl _ _ w.heap.size 30 (cellsB O).toArray _ _ rfl (setRow_heap _ _ _ _ 30 _ HK6.out.ans) Try.underlying30 rfl IO.out
      · exact ⟨rfl, below_setRow HK6.out.bel (Nat.le_refl _) _⟩
end Go.Proofs.Ytkpmfpbeidhcbaa
