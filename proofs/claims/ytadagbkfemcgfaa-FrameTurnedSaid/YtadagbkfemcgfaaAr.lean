/-
  Own work. An argument of type api.ID.
-/
import Derived.Test.YtadagbkfemcgfaaG1
namespace Go.Proofs.Ytadagbkfemcgfaa
open Go.RowKit
set_option linter.unusedVariables false
set_option linter.unusedSimpArgs false

theorem mapM_each {α β : Type} {f : α → Option β} : ∀ (L : List α) (xs : List β), L.mapM f = some xs → ∀ i ∈ L, ∃ y, f i = some y
  | [], _, _, i, hi => by cases hi
  | j :: L, xs, h, i, hi => by
    rw [List.mapM_cons] at h
    simp only [bind, Option.bind_eq_some_iff, pure, Option.some.injEq] at h
    obtain ⟨y, hy, ys, hys, _⟩ := h
    rcases List.mem_cons.1 hi with rfl | hi
    · exact ⟨y, hy⟩
    · exact mapM_each L ys hys i hi
theorem u8_byte {z : Int} (h : (Lit.int .u8 z).wf = true) : z = ((UInt8.ofNat z.toNat).toNat : Int) := by
  have := bounds_u8 h
  rw [u8_of]
  omega
set_option maxRecDepth 100000 in
/-- An array of 32 bytes that came in. -/
theorem arr_open {H : Type} {enc : TypeId × Value → H} {W : World} {r : Reach} {b0 base : Nat} {sp : Nat → Bool} {held : Bool} {v : Value} {d : DataW H} {ps : List MemPlace}
    (hok : Value.okWide Try.prog W r b0 23 v) (h : DataW.Trod enc Try.prog W base sp held 23 v d ps) : ∃ q : List UInt8, q.length = 32 ∧ v = .agg (cellsB q).toArray := by
  have hc : Try.prog.cellsOf 23 = 32 := by kernel_rfl
  have hc1 : Try.prog.cellsOf 5 = 1 := by kernel_rfl
  simp only [Value.okWide, Try.underlying23] at hok
  obtain ⟨cs, rfl, h2, _⟩ := hok
  rw [hc] at h2
  obtain ⟨fuel, hf⟩ := h
  cases fuel with
  | zero => simp [DataW.trod] at hf
  | succ m =>
    rw [DataW.trod_step] at hf
    unfold DataW.trodStep at hf
    simp only [Try.underlying23, Value.cells, hc, hc1] at hf
    rw [if_pos (by simpa using h2)] at hf
    simp only [Option.map_eq_some_iff] at hf
    obtain ⟨ys, hy, _⟩ := hf
    have each : ∀ i, ∃ b : UInt8, i < 32 → cs[i]? = some (.int .u8 (b.toNat : Int)) := by
      intro i
      by_cases hi : i < 32
      · obtain ⟨y, hy2⟩ := mapM_each _ _ hy i (List.mem_range.2 hi)
        obtain ⟨z, e1, _, e3⟩ := DataW.trod_int Try.underlying5 hy2
        refine ⟨UInt8.ofNat z.toNat, fun _ => ?_⟩
        rw [← u8_byte e3]
        have h5 := congrArg (·[0]?) e1
        simpa [List.getElem?_take, List.getElem?_drop] using h5
      · exact ⟨0, fun q => absurd q hi⟩
    refine ⟨(List.range 32).map fun i => Classical.choose (each i), by simp, ?_⟩
    refine congrArg Value.agg ?_
    apply Array.ext
    · rw [h2]; simp [cellsB]
    · intro i h3 h4
      have h5 := Classical.choose_spec (each i) (by omega)
      have h6 : cs[i]? = some cs[i] := Array.getElem?_eq_getElem h3
      have h7 := Option.some.inj (h6.symm.trans h5)
      refine h7.trans ?_
      simp [cellsB]
end Go.Proofs.Ytadagbkfemcgfaa
