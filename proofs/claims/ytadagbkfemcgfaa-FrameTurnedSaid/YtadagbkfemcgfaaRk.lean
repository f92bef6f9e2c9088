/-
  Own work. The document's answer's keys, and a block's words as they come byte by byte.
-/
import Derived.Test.YtadagbkfemcgfaaPad
namespace Go.Proofs.Ytadagbkfemcgfaa
open Go.RowKit
set_option linter.unusedVariables false
set_option linter.unusedSimpArgs false

theorem infoU64 : (Try.prog.info? 65).map (·.size) = some 1 := by kernel_rfl
theorem info64 : (Try.prog.info? 140).map (·.size) = some 64 := by kernel_rfl
theorem info8 : (Try.prog.info? 142).map (·.size) = some 8 := by kernel_rfl
theorem rkeys_any (w : World) :
    Calls Try.prog 89 #[] w fun e w' => e = .returned (.agg (wordsV keysL)) ∧ Below w.heap.size w w' := by
  go_enter Try.func89, Try.ntmps89
  go_wp2_with (first
    | (refine wpList_buildFlatArr rfl 140 65 64 _ rfl .u64 (keysL.map fun (x : Nat) => (x : Int)) Try.underlying140 infoU64 (by kernel_rfl) rfl ?_)
    | (refine wpList_store_row rfl 140 (.tmp 0) (.tmp 1) rfl w.heap.size (wordsV keysL) rfl rfl 140 _ (heap_alloc_new w _) info64 (by rfl) (wordsV_one _) ?_))
  refine bodyPost_ret (v := .agg (wordsV keysL)) ?_ (by rfl) ?_
  · exact results_cell_row (p := 0) (ty := 140) rfl _ _ w.heap.size 140 (wordsV keysL) _ _ rfl (setRow_heap _ _ _ _ 140 _ (heap_alloc_new w _)) Try.underlying140 rfl info64
  · exact ⟨rfl, below_setRow ((Below.refl _ _).alloc (Nat.le_refl _) _) (Nat.le_refl _) _⟩

/-- A word of which t bytes have come. -/
def pwt (B : List UInt8) (q : Nat) : Nat → Nat
  | 0 => 0
  | t + 1 => pwt B q t * 256 + (B.getD (4 * q + t) 0).toNat
def wP (B : List UInt8) (i : Nat) : List Nat := (List.range 64).map fun q => pwt B q (min 4 (i - 4 * q))
theorem wP_len (B : List UInt8) (i : Nat) : (wP B i).length = 64 := by simp [wP]
theorem wP_zero (B : List UInt8) : wP B 0 = List.replicate 64 0 := by
  apply List.ext_getElem
  · simp [wP]
  · intro i h1 h2
    rw [List.getElem_replicate]
    simp only [wP, List.getElem_map, List.getElem_range]
    rw [show min 4 (0 - 4 * i) = 0 by omega]
    rfl
theorem pwt_lt (B : List UInt8) (q : Nat) : ∀ t, t ≤ 4 → pwt B q t < 256 ^ t
  | 0, _ => by simp [pwt]
  | t + 1, h => by
    have ih := pwt_lt B q t (by omega)
    have := (B.getD (4 * q + t) 0).toNat_lt
    rw [pwt, Nat.pow_succ]
    omega
theorem pwt_lt3 (B : List UInt8) (q t : Nat) (h : t ≤ 3) : pwt B q t < 16777216 := by
  have h1 := pwt_lt B q t (by omega)
  have h2 : 256 ^ t ≤ 256 ^ 3 := Nat.pow_le_pow_right (by omega) h
  have h3 : (256 : Nat) ^ 3 = 16777216 := by decide
  omega
theorem wP_get (B : List UInt8) (i : Nat) (h : i < 64) : (wP B i)[i / 4]? = some (pwt B (i / 4) (i % 4)) := by
  have h1 : i / 4 < 64 := by omega
  have h2 : min 4 (i - 4 * (i / 4)) = i % 4 := by omega
  simp [wP, h1, h2]
theorem wP_set (B : List UInt8) (i : Nat) (h : i < 64) : (wP B i).set (i / 4) (pwt B (i / 4) (i % 4) * 256 + (B.getD i 0).toNat) = wP B (i + 1) := by
  apply List.ext_getElem
  · simp [wP]
  · intro q h1 h2
    rw [List.getElem_set]
    split
    · rename_i hq
      subst hq
      simp only [wP, List.getElem_map, List.getElem_range]
      rw [show min 4 (i + 1 - 4 * (i / 4)) = i % 4 + 1 by omega, pwt, show 4 * (i / 4) + i % 4 = i by omega]
    · rename_i hq
      simp only [wP, List.getElem_map, List.getElem_range]
      rw [show min 4 (i + 1 - 4 * q) = min 4 (i - 4 * q) by omega]
theorem wP_end (B : List UInt8) : wP B 64 = wsN B 16 := by
  unfold wsN
  apply List.ext_getElem
  · simp [wP]
  · intro q h1 h2
    have hq : q < 64 := by rw [wP_len] at h1; exact h1
    by_cases hlt : q < 16
    · rw [List.getElem_append_left (by simp; exact hlt)]
      simp only [wP, List.getElem_map, List.getElem_range]
      rw [show min 4 (64 - 4 * q) = 4 by omega]
      simp only [pwt, wordB]
      simp
    · rw [List.getElem_append_right (by simp; omega), List.getElem_replicate]
      simp only [wP, List.getElem_map, List.getElem_range]
      rw [show min 4 (64 - 4 * q) = 0 by omega]
      rfl
theorem keys_small : Small keysL := by
  intro x hx
  have : keysL.all (fun x => decide (x < 4294967296)) = true := by decide +kernel
  exact of_decide_eq_true (List.all_eq_true.1 this x hx)
theorem blk_len (P : List UInt8) (k : Nat) (h : 64 * (k + 1) ≤ P.length) : (blk P k).length = 64 := by
  unfold blk
  rw [List.length_take, List.length_drop]
  omega
theorem blk_getD (P : List UInt8) (k i : Nat) (hi : i < 64) : (blk P k).getD i 0 = P.getD (64 * k + i) 0 := by
  unfold blk
  simp [List.getD, List.getElem?_take, hi, List.getElem?_drop]
end Go.Proofs.Ytadagbkfemcgfaa
