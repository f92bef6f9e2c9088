/-
  Own work. JournalForged, the parts without a walk: two sectors of the same bytes committed, the disk armed or not; their row in memory.
-/
import Derived.Test.YthfmkdeglceppaaHd
import Derived.Test.YthfmkdeglceppaaCu6
namespace Go.Proofs.Ythfmkdeglceppaa
open Go.RowKit Go.Maps
set_option linter.unusedVariables false
set_option linter.unusedSimpArgs false

theorem Row5.has {w : World} {base g : Nat} (h : Row5 w base g) : ∃ l : List UInt8, l.length = 512 ∧ HasB w w.heap.size (some ⟨g, 0, none⟩) 512 l ∧ base ≤ g ∧ g < w.heap.size := by
  obtain ⟨l, hl, o⟩ := h
  have hlen : (cellsB l).length = 512 := by unfold cellsB; rw [List.length_map, hl]
  obtain ⟨g', e', hb, hg, hc⟩ := o.at_ (by omega)
  injection e' with e'
  injection e' with e'
  subst e'
  refine ⟨l, hl, ⟨hl.symm, fun _ => ⟨g, 0, rfl, hg, fun i x hx => ?_⟩⟩, hb, hg⟩
  rw [Nat.zero_add]
  refine hc i _ ?_
  unfold cellsB
  rw [List.getElem?_map, hx]
  rfl
theorem HasPu.two {w : World} {A : Option Addr} {n c : Nat} {D : List UInt8} (x y : Int) (h : HasB w w.heap.size A n D) (hc : n ≤ c) (hx : -9223372036854775808 ≤ x ∧ x ≤ 9223372036854775807) (hy : -9223372036854775808 ≤ y ∧ y ≤ 9223372036854775807) : HasPu (w.alloc (.cells #[.int .i64 x, .slice A n c, .int .i64 y, .slice A n c] 46)) (some ⟨w.heap.size, 0, none⟩) 2 [⟨x, D⟩, ⟨y, D⟩] := by
  have hb : Below w.heap.size w (w.alloc (.cells #[.int .i64 x, .slice A n c, .int .i64 y, .slice A n c] 46)) := (Below.refl _ _).alloc (Nat.le_refl _) _
  have h0 := heap_alloc_new w (.cells #[.int .i64 x, .slice A n c, .int .i64 y, .slice A n c] 46)
  refine ⟨rfl, fun z hz => ?_, fun _ => ⟨w.heap.size, 0, rfl, by simp, fun k z hz => ?_⟩⟩
  · simp only [List.mem_cons, List.not_mem_nil, or_false] at hz
    rcases hz with rfl | rfl
    · exact hx
    · exact hy
  · match k with
    | 0 =>
      simp only [List.getElem?_cons_zero, Option.some.injEq] at hz
      subst hz
      exact ⟨A, n, c, cell_of_row _ _ 0 _ _ (0, 0) h0, cell_of_row _ _ 1 _ _ (0, 0) h0, h.on hb, hc⟩
    | 1 =>
      simp only [List.getElem?_cons_succ, List.getElem?_cons_zero, Option.some.injEq] at hz
      subst hz
      exact ⟨A, n, c, cell_of_row _ _ 2 _ _ (0, 0) h0, cell_of_row _ _ 3 _ _ (0, 0) h0, h.on hb, hc⟩
    | k + 2 => simp at hz
/-- What is committed in a round. -/
def foL (i : Nat) (d : List UInt8) : List Pu := [⟨(i : Int), d⟩, ⟨(((i + 1) % 50 : Nat) : Int), d⟩]
def foH (H : Nat → List UInt8) (i : Nat) (d : List UInt8) : Nat → List UInt8 := upd (upd H i d) ((i + 1) % 50) d
theorem foH_put (H : Nat → List UInt8) (i : Nat) (d : List UInt8) : putH H (chs (foL i d)) = foH H i d := by
  rfl
theorem foH_row (H : Nat → List UInt8) (i : Nat) (d : List UInt8) (hi : i < 50) : ((strs (hsL H 50)).set i (.string (strB d))).set ((i + 1) % 50) (.string (strB d)) = strs (hsL (foH H i d) 50) := by
  unfold foH
  rw [strs_set, hsL_set _ _ _ _ hi, strs_set, hsL_set _ _ _ _ (Nat.mod_lt _ (by decide))]
section
variable {p : Pt} {n V T u r i : Nat} {j : JM} {H : Nat → List UInt8} {d : List UInt8}
theorem SA.aft (a : SA p n V j T u r H) : Aft p.m n V (Rec n V r T H) := by
  obtain ⟨f, q, c, hr⟩ := a.rec_
  exact q.aft c (fun g hg => hr.congr hg)
theorem SA.two (a : SA p 64 V j T u 12 H) (hV : V + 124 ≤ 1073000000) (hi : i < 50) (hd : d.length = 512) :
    ((cmt p 64 j (foL i d)).e = 0 ∧ ∃ u', SA (cmt p 64 j (foL i d)).p 64 (V + 107) (cmt p 64 j (foL i d)).j (T + 1) u' 12 (foH H i d)) ∨
    ((cmt p 64 j (foL i d)).e = 8 ∧ Aft (cmt p 64 j (foL i d)).p.m 64 (V + 107) (fun g => Rec 64 (V + 107) 12 T H g ∨ Rec 64 (V + 107) 12 (T + 1) (foH H i d) g)) := by
  obtain ⟨b1, b2, b3, b4, b5, b6, b7, b8, b9, b10, b11, b12, b13, b14, b15⟩ := a.facts (by omega)
  have hm : (i + 1) % 50 < 50 := Nat.mod_lt _ (by decide)
  have e : lsE (j.homes 64) [] (foL i d) = 0 := by
    rw [b1]
    refine lsE_back _ (foL i d) [] (fun x hx => ?_) ?_
    · unfold foL at hx
      simp only [List.mem_cons, List.not_mem_nil, or_false] at hx
      rcases hx with rfl | rfl
      · exact ⟨by simp, by show (i : Int) < _; omega, hd, by simp⟩
      · exact ⟨Int.natCast_nonneg _, by show (((i + 1) % 50 : Nat) : Int) < _; omega, hd, by simp⟩
    · unfold foL
      simp only [List.map_cons, List.map_nil, List.nodup_cons, List.mem_singleton, List.not_mem_nil, not_false_eq_true, List.nodup_nil, and_true]
      omega
  have hv : lstE 64 j (foL i d) = 0 := by
    unfold lstE
    rw [e, if_neg (fun h => h rfl), b2, if_neg (by show ¬ (40 < 2 ∨ 12 ≤ 2); omega)]
  have q := a.commit (by omega) hv (by unfold foL; simp)
  rw [foH_put] at q
  rcases q with ⟨q1, q2⟩ | ⟨q1, q2⟩
  · exact .inl ⟨q1, q2⟩
  · exact .inr ⟨q1, q2.aft⟩
end
end Go.Proofs.Ythfmkdeglceppaa
