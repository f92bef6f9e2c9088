/-
  Own work. The lists that the law JournalRound commits. No walk.
-/
import Derived.Test.YthfmkdeglceppaaOb
namespace Go.Proofs.Ythfmkdeglceppaa
open Go.RowKit Go.Maps
set_option linter.unusedVariables false
set_option linter.unusedSimpArgs false

/-- What stands in the k-th sector of the i-th commit. -/
def roD (i k : Nat) : List UInt8 := fullL [UInt8.ofNat i, UInt8.ofNat k, 1]
def roL (h i k : Nat) : List Pu := (List.range k).map fun q => ⟨(((i * 7 + q) % h : Nat) : Int), roD i q⟩
theorem roL_succ (h i k : Nat) : roL h i (k + 1) = roL h i k ++ [⟨(((i * 7 + k) % h : Nat) : Int), roD i k⟩] := by unfold roL; rw [List.range_succ, List.map_append]; rfl
theorem roL_len (h i k : Nat) : (roL h i k).length = k := by simp [roL]
theorem ro_ne {h i a b : Nat} (hab : a < b) (hb : b < h) : (i * 7 + a) % h ≠ (i * 7 + b) % h := by
  intro e
  have h1 : (i * 7 + b - (i * 7 + a)) % h = 0 := Nat.sub_mod_eq_zero_of_mod_eq e.symm
  rw [show i * 7 + b - (i * 7 + a) = b - a by omega, Nat.mod_eq_of_lt (by omega)] at h1
  omega
theorem roL_new {h i k : Nat} (hk : k < h) : ((((i * 7 + k) % h : Nat) : Int)) ∉ (roL h i k).map Pu.i := by
  unfold roL
  rw [List.map_map, List.mem_map]
  rintro ⟨q, hq, he⟩
  rw [List.mem_range] at hq
  have : (i * 7 + q) % h = (i * 7 + k) % h := by
    have h2 : (((i * 7 + q) % h : Nat) : Int) = (((i * 7 + k) % h : Nat) : Int) := he
    omega
  exact ro_ne hq hk this
theorem roL_nodup {h i k : Nat} (hk : k ≤ h) : ((roL h i k).map Pu.i).Nodup := by
  unfold roL
  rw [List.map_map]
  unfold List.Nodup
  rw [List.pairwise_map]
  refine (List.pairwise_lt_range (n := k)).imp_of_mem (fun {a b} ha hb hab hh => ?_)
  rw [List.mem_range] at hb
  have h2 : (((i * 7 + a) % h : Nat) : Int) = (((i * 7 + b) % h : Nat) : Int) := hh
  have hbh : b < h := Nat.lt_of_lt_of_le hb hk
  exact ro_ne hab hbh (Int.ofNat.inj h2)
theorem roL_ok {h i k : Nat} (h0 : 0 < h) : ∀ x ∈ roL h i k, 0 ≤ x.i ∧ x.i < (h : Nat) ∧ x.data.length = 512 := by
  intro x hx
  unfold roL at hx
  obtain ⟨q, _, rfl⟩ := List.mem_map.1 hx
  have := Nat.mod_lt (i * 7 + q) h0
  exact ⟨by show (0 : Int) ≤ (((i * 7 + q) % h : Nat) : Int); omega, by show (((i * 7 + q) % h : Nat) : Int) < (h : Nat); omega, fullL_len _⟩
/-- The homes behind the first k of them. -/
def roH (H : Nat → List UInt8) (h i k : Nat) : Nat → List UInt8 := putH H (chs (roL h i k))
theorem roH_zero (H : Nat → List UInt8) (h i : Nat) : roH H h i 0 = H := rfl
theorem roH_succ (H : Nat → List UInt8) (h i k : Nat) : roH H h i (k + 1) = upd (roH H h i k) ((i * 7 + k) % h) (roD i k) := by
  unfold roH
  rw [roL_succ]
  unfold chs
  rw [List.map_append]
  unfold putH
  rw [List.foldl_append]
  rfl
theorem roH_row (H : Nat → List UInt8) (h i k : Nat) (h0 : 0 < h) : (strs (hsL (roH H h i k) h)).set ((i * 7 + k) % h) (.string (strB (roD i k))) = strs (hsL (roH H h i (k + 1)) h) := by
  rw [strs_set, hsL_set _ _ _ _ (Nat.mod_lt _ h0), roH_succ]
/-- A commit of a round. -/
theorem SJ.round {p : Pt} {V T u r i k : Nat} {j : JM} {H : Nat → List UInt8} (a : SJ p 128 V j T u r H) (hV : V + 300 ≤ 1073000000) (h1 : 1 ≤ k) (h2 : k ≤ 40) (h3 : k < r) (hr : r ≤ 67) :
    (cmt p 128 j (roL (126 - r) i k)).e = 0 ∧ ∃ u', SJ (cmt p 128 j (roL (126 - r) i k)).p 128 (V + 171) (cmt p 128 j (roL (126 - r) i k)).j (T + 1) u' r (roH H (126 - r) i k) := by
  have hv : lstE 128 j (roL (126 - r) i k) = 0 := a.may (roL_ok (by omega)) (roL_nodup (by omega)) (by rw [roL_len]; exact h2) (by rw [roL_len]; exact h3)
  obtain ⟨c1, c2⟩ := a.commit (by omega) hv (by intro hh; have := roL_len (126 - r) i k; rw [hh] at this; simp at this; omega)
  exact ⟨c1, _, c2⟩
end Go.Proofs.Ythfmkdeglceppaa
