/-
  Own work. The program's disk: Waiting.
-/
import Derived.Test.YtkbbpkbchniddaaPe
import Derived.Test.YtkbbpkbchniddaaLs5
import Derived.TacticsInMore
namespace Go.Proofs.Ytkbbpkbchniddaa
open Go.RowKit Go.Maps Go.Sort Go.Shelf
set_option linter.unusedVariables false
set_option linter.unusedSimpArgs false

/-- slices.Sort's two contracts, at the fence that asks nothing. -/
theorem sorts40 (m : Nat) : AnyZI.SortsIn Try.prog sorted40_ren Fence.wide m :=
  ⟨fun blk off cap ss W hH hblk hsz => callsIn_wide.2 (AnyM.slices_Sort_int sort49 blk off cap ss W hH hblk hsz),
   fun p cap W => callsIn_wide.2 (AnyM.slices_Sort_int_none sort49 p cap W)⟩

section
variable {w : World} {g gd gp n : Nat} {m : RM} {x : PX} {D : DU}
set_option maxHeartbeats 1000000 in
theorem keysSorted (h : PrD w g gd gp n m x D) (ok : m.Ok n) :
    CallsIn Fence.wide 5 Try.prog 65 #[.func (.func 88) #[] #[.pointer (some ⟨w.heap.size, 0, none⟩)]] (w.alloc (.cells #[.map (some gp)] 89)) (fun e w' => RetI w (m.wtK n) e w') := by
  have hbl := h.map.lt
  have hsz := h.map.size_le
  have hwr := ok.wr
  have hseq : SeqGives Fence.wide 2 Try.prog 88 #[.pointer (some ⟨w.heap.size, 0, none⟩)] encZ (fun ss => ss.Perm (intKeys D)) (Maps.size D) (w.alloc (.cells #[.map (some gp)] 89)) :=
    AnyZI.keys_gives (ρ := keys41_ren) { keys41 with } Fence.wide _ trivial rfl (by omega) w.heap.size gp m.wrote D _ (by simp) (by simp) (by
      obtain ⟨es, clock, hb, Ft, hs, hD⟩ := h.map
      exact ⟨es, clock, (Below.heap_alloc _ _ gp hbl).trans hb, Ft, hs, hD⟩)
  have cS := AnyZI.sorted_in sorted40 Fence.wide 5 trivial trivial trivial trivial rfl (by omega) (sorts40 _) (enters_of Try.func86 (by kernel_rfl) rfl) 88 #[.pointer (some ⟨w.heap.size, 0, none⟩)] trivial (enters_of Try.func88 (by kernel_rfl) rfl) _ _ (by unfold maxLen; omega) (by omega) _ hseq
  change CallsIn _ _ Try.prog 65 _ _ _ at cS
  refine cS.mono ?_
  rintro e w' ⟨v, ss, rfl, hS, hrow, hnil, hb⟩
  obtain ⟨es, hD, hp, hk⟩ := h.map.entries intK
  have hP : ss.Perm ((m.wtK n).map fun (i : Nat) => (i : Int)) := hS.trans (h.mo.keys hD hp hk).symm
  have hlen : ss.length = (m.wtK n).length := by rw [hP.length_eq, List.length_map]
  have hsort : ss.mergeSort leI = (m.wtK n).map fun (i : Nat) => (i : Int) := by rw [mergeSort_of_perm_i hP]; exact RM.wtK_sorted m n
  have hrow2 : OwnV 3 w' (w.alloc (.cells #[.map (some gp)] 89)).heap.size v (ints (m.wtK n)) := by
    unfold OwnV
    have e1 : (ss.mergeSort leI).map encZ = ints (m.wtK n) := by
      rw [hsort]
      unfold ints
      rw [List.map_map]
      rfl
    have e2 : (ints (m.wtK n)).length = ss.length := by unfold ints; rw [List.length_map, hlen]
    rw [e2, ← e1]
    exact hrow
  obtain ⟨A, q, c, rfl⟩ := hrow2.slice
  refine ⟨A, q, c, rfl, ⟨hrow2.1, ?_⟩, ((Below.refl _ w).alloc (Nat.le_refl _) _).trans (hb.mono (by simp))⟩
  rcases hrow2.2 with h2 | ⟨g', c', cur, e, h3, r⟩
  · exact .inl h2
  · exact .inr ⟨g', c', cur, e, by simp at h3; omega, r⟩

set_option maxRecDepth 100000 in
set_option maxHeartbeats 1000000 in
theorem pwaiting (h : PrD w g gd gp n m x D) (ok : m.Ok n) : Calls Try.prog 36 #[.pointer (some ⟨g, 0, none⟩)] w (RetI w (m.wtK n)) := by
  have N := Lib.hid ((callsIn_wide (n := 5)).2 (pnone_any h ok))
  have cK : ∀ mb W, CallsIn Fence.wide 5 Try.prog 67 #[.map mb] W fun e w' => e = .returned (.func (.func 88) #[] #[.pointer (some ⟨W.heap.size, 0, none⟩)]) ∧ w' = W.alloc (.cells #[.map mb] 89) := fun mb W => AnyZI.keys_in keys41 Fence.wide 5 trivial rfl mb W
  have cS := keysSorted h ok
  have c1 := h.pm
  clear h ok
  refine (callsIn_wide (n := 6)).1 ?_
  have hfN : Fence.wide.fn 55 := trivial
  have hfK : Fence.wide.fn 67 := trivial
  have hfS : Fence.wide.fn 65 := trivial
  refine callsIn_of_wp Try.func36 rfl trivial ?_ rfl
  simp only [Try.ntmps36, List.size_toArray, List.length_cons, List.length_nil, Nat.reduceAdd, Nat.reduceSub, Array.replicate_succ, Array.replicate_zero, List.push_toArray, List.append_toArray, List.nil_append, List.cons_append]
  gi_wp2_with (first
    | (gi_at_call 55; refine N.out.mono ?_; rintro e w1 ⟨rfl, rfl⟩)
    | (gi_at_call 67; refine (cK _ _).mono ?_; rintro e w' ⟨rfl, rfl⟩)
    | (gi_at_call 65; refine cS.mono ?_; rintro e w' ⟨A, q, c, rfl, hrow, hb⟩))
  go_ret
  exact ⟨A, q, c, rfl, hrow, hb⟩
end
end Go.Proofs.Ytkbbpkbchniddaa
