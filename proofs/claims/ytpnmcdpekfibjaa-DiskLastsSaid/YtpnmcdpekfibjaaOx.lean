/-
  Own work. Bytes in a block of the call's own, of whatever type the block is (a slice of an array that the call has made).
-/
import Derived.Test.YtpnmcdpekfibjaaBe
namespace Go.Proofs.Ytpnmcdpekfibjaa
open Go.RowKit
set_option linter.unusedVariables false
set_option linter.unusedSimpArgs false

/-- Bytes that the call has made, in a block of any type. -/
def OwnX (w : World) (base : Nat) (v : Value) (l : List UInt8) : Prop := ∃ t, w.ownsRow base t 1 v l.length (cellsB l)
section
variable {w w' : World} {base n c : Nat} {A : Option Addr} {v : Value} {l : List UInt8}
theorem OwnB.x (h : OwnB w base v l) : OwnX w base v l := ⟨_, h⟩
theorem OwnX.form (h : OwnX w base v l) : (v = .slice none 0 0 ∧ l = []) ∨ ∃ t g c cur, v = .slice (some ⟨g, 0, none⟩) l.length c ∧ base ≤ g ∧ g < w.heap.size ∧ w.heap[g]? = some (.cells cur t (0, 0)) ∧ l.length ≤ c ∧ c ≤ maxLen ∧ cur.size = c ∧ cur.toList.take l.length = cellsB l := by
  obtain ⟨t, h⟩ := h
  rcases h.2 with ⟨e, hn⟩ | ⟨g, c, cur, e, hb, hg, hn, hc, hs, ht⟩
  · exact .inl ⟨e, List.eq_nil_of_length_eq_zero hn⟩
  · exact .inr ⟨t, g, c, cur, e, hb, (Array.getElem?_eq_some_iff.1 hg).1, hg, hn, hc, by simpa using hs, by simpa using ht⟩
theorem OwnX.slice (h : OwnX w base v l) : ∃ A n c, v = .slice A n c ∧ n ≤ c ∧ c ≤ maxLen ∧ HasB w w.heap.size A n l := by
  rcases h.form with ⟨e, rfl⟩ | ⟨t, g, c, cur, e, hb, hlt, hg, hn, hc, hs, ht⟩
  · exact ⟨none, 0, 0, e, by simp, by simp, HasB.nil _ _ _⟩
  · refine ⟨_, _, c, e, hn, hc, rfl, fun _ => ⟨g, 0, rfl, hlt, fun i b hib => ?_⟩⟩
    obtain ⟨t, h⟩ := h
    have := World.ownsRow.cells (w := w) h (g := g) (by rw [e]; rfl) i (.int .u8 (b.toNat : Int)) (by simp [cellsB, hib])
    simpa [Addr.add_lit] using this
theorem OwnX.has (h : OwnX w base (.slice A n c) l) : HasB w w.heap.size A n l := by
  obtain ⟨A', n', c', e, _, _, h3⟩ := h.slice
  simp only [Value.slice.injEq] at e
  obtain ⟨rfl, rfl, rfl⟩ := e
  exact h3
theorem OwnX.len (h : OwnX w base (.slice A n c) l) : n = l.length := h.has.1
theorem OwnX.caps (h : OwnX w base (.slice A n c) l) : n ≤ c ∧ c ≤ maxLen := by
  obtain ⟨A', n', c', e, h1, h2, _⟩ := h.slice
  simp only [Value.slice.injEq] at e
  obtain ⟨rfl, rfl, rfl⟩ := e
  exact ⟨h1, h2⟩
theorem OwnX.head (h : OwnX w base (.slice A n c) l) (hn : 0 < n) : ∃ g, A = some ⟨g, 0, none⟩ ∧ base ≤ g ∧ g < w.heap.size ∧ ∀ i b, l[i]? = some b → w.cell? ⟨g, i, none⟩ = some (.int .u8 (b.toNat : Int)) := by
  have hl := h.len
  obtain ⟨g', o', e1, _, hcell⟩ := h.has.2 hn
  rcases h.form with ⟨e0, rfl⟩ | ⟨t, g, c2, cur, e0, hbg, hlt, _⟩
  · simp at hl; omega
  · simp only [Value.slice.injEq] at e0
    obtain ⟨rfl, -, -⟩ := e0
    simp only [Option.some.injEq, Addr.mk.injEq, and_true] at e1
    obtain ⟨rfl, rfl⟩ := e1
    exact ⟨g, rfl, hbg, hlt, fun i b hb => by simpa using hcell i b hb⟩
theorem OwnX.below (h : OwnX w base v l) (hb : Below w.heap.size w w') : OwnX w' base v l := by
  obtain ⟨t, h⟩ := h
  refine ⟨t, h.1, ?_⟩
  rcases h.2 with h2 | ⟨g, c, cur, e, h3, hg, r⟩
  · exact .inl h2
  · exact .inr ⟨g, c, cur, e, h3, by rw [hb.block g (Array.getElem?_eq_some_iff.1 hg).1]; exact hg, r⟩
theorem OwnX.nil (w : World) (base : Nat) : OwnX w base (.slice none 0 0) [] := (OwnB.nil w base).x
/-- A whole array as a slice. -/
theorem OwnX.of_block {g : Nat} {t : TypeId} (h : w.heap[g]? = some (.cells (cellsB l).toArray t (0, 0))) (hb : base ≤ g) (hn : n = l.length) (hm : n ≤ maxLen) : OwnX w base (.slice (some ⟨g, 0, none⟩) n n) l := by
  subst hn
  exact ⟨t, by simp [cellsB], .inr ⟨g, _, _, rfl, hb, h, Nat.le_refl _, hm, by simp [cellsB], by
    show (cellsB l).take (l.length * 1) = cellsB l
    rw [Nat.mul_one]
    exact List.take_of_length_le (Nat.le_of_eq (cellsB_length l))⟩⟩
end
/-- A call that hands back new bytes l, in a block of whatever type, and an error's number, and turns nothing that was there. -/
def RetXE (w : World) (l : List UInt8) (k : Int) (e : Ending) (w' : World) : Prop :=
  ∃ A n c, e = .returned (.tuple #[.slice A n c, .int .i64 k]) ∧ OwnX w' w.heap.size (.slice A n c) l ∧ Below w.heap.size w w'
end Go.Proofs.Ytpnmcdpekfibjaa
