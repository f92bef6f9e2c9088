/-
  Own work.
-/
import Derived.Test.YthoebjekkfhhgaaGreatG2
import Derived.Deep.Grids
import Derived.Deep.Slices
set_option linter.unusedVariables false
set_option linter.unusedSimpArgs false
namespace Go.Proofs.YthoebjekkfhhgaaGreat
open Go.RowKit Go.Deep
def HasIr (w : World) (B : Nat) (A : Option Addr) (n : Nat) (zs : List Int) : Prop :=
 n = zs.length /\ (∀ z ∈ zs, -9223372036854775808 <= z /\ z <= 9223372036854775807) /\ (0 < n -> ∃ g o, A = some ⟨g, o, none⟩ /\ g < B /\ ∀ i z, zs[i]? = some z -> w.cell? ⟨g, o + i, none⟩ = some (.int .i64 z))
theorem hasIr_of_row {w : World} {a : Option Addr} {len cap : Nat} {zs : List Int}
 (h : (a = none /\ len = 0 /\ cap = 0 /\ zs = []) \/ ∃ x, a = some x /\ len <= cap /\ cap <= maxLen /\ zs.length = cap /\ (∀ i, i < zs.length -> w.cell? (x.add i) = some (.int .i64 (zs.getD i 0))) /\ ∀ n ∈ zs, (Lit.int .i64 n).wf = true) :
 ∃ l, HasIr w w.heap.size a len l /\ len <= cap /\ cap <= maxLen := by
 rcases h with ⟨rfl, rfl, rfl, rfl⟩ | ⟨x, rfl, h1, h2, h3, hc, hw⟩
 · exact ⟨[], ⟨rfl, by simp, fun h => absurd h (by simp)⟩, by omega, by simp⟩
 · refine ⟨zs.take len, ⟨by simp; omega, fun z hz => bounds_i64 (hw z (List.mem_of_mem_take hz)), fun hl => ?_⟩, h1, h2⟩
   have c0 := hc 0 (by omega)
   obtain ⟨b, o, s⟩ := x
   have hs : s = none := by
    have := World.cell?_spot c0
    simpa [Addr.add] using this
   subst hs
   refine ⟨b, o, rfl, ?_, fun i u hu => ?_⟩
   · have := World.block_lt_of_cell? w _ c0
     simpa [Addr.add] using this
   · have hi : i < len := by
      have := (List.getElem?_eq_some_iff.1 hu).1
      simp at this
      omega
     have := hc i (by omega)
     rw [Addr.add_lit] at this
     rw [this]
     rw [List.getElem?_take, if_pos hi] at hu
     simp [List.getD, hu]
end Go.Proofs.YthoebjekkfhhgaaGreat
