/-
  Own work. Arguments: lists of lists of what is to be committed, as a law has them; light.
-/
import Derived.Test.YtadagbkfemcgfaaLi
import Derived.Deep.Grids
import Derived.Deep.Slices
namespace Go.Proofs.Ytadagbkfemcgfaa
open Go.RowKit Go.Maps Go.Deep Go.ChangeShapes
set_option linter.unusedVariables false
set_option linter.unusedSimpArgs false

/-- A list of such lists in memory. -/
def HasPps (W : World) (B : Nat) (A : Option Addr) (n : Nat) (ls : List (List PsR)) : Prop :=
  n = ls.length ∧ (0 < n → ∃ g o, A = some ⟨g, o, none⟩ ∧ g < W.heap.size ∧ ∀ i l, ls[i]? = some l → ∃ A' n' c', W.cell? ⟨g, o + i, none⟩ = some (.slice A' n' c') ∧ HasPs W A' n' l ∧ n' ≤ c' ∧ c' ≤ maxLen)
theorem cellsPs : Try.prog.cellsOf 104 = 3 := by kernel_rfl
theorem cellsP1 : Try.prog.cellsOf 3 = 1 ∧ Try.prog.cellsOf 24 = 1 ∧ Try.prog.cellsOf 4 = 1 ∧ Try.prog.cellsOf 5 = 1 ∧ Try.prog.cellsOf 53 = 1 := ⟨by kernel_rfl, by kernel_rfl, by kernel_rfl, by kernel_rfl, by kernel_rfl⟩
section
variable {H : Type} {enc : TypeId × Value → H} {W : World} {held : Bool} {fuel len cap : Nat} {a : Option Addr} {x : DataW H × List MemPlace}
theorem bytes_openP {v : Value} (h : DataW.trod enc Try.prog W 0 (fun _ => true) held fuel 24 [v] = some x) : ∃ A n c l, v = .slice A n c ∧ HasB W W.heap.size A n l ∧ n ≤ c ∧ c ≤ maxLen := by
  rcases open_ints Try.underlying24 Try.underlying5 cellsP1.2.2.2.1 h with ⟨hcs, _⟩ | ⟨y, l, c, zs, hcs, _, hl, hm, hz, _, hcell, hwz⟩
  · simp only [List.cons.injEq, and_true] at hcs
    subst hcs
    exact ⟨none, 0, 0, [], rfl, HasB.nil _ _ _, Nat.le_refl _, by simp⟩
  · simp only [List.cons.injEq, and_true] at hcs
    subst hcs
    obtain ⟨l', h1, h2, h3⟩ := has_of_row (w := W) (a := some y) (len := l) (cap := c) (zs := zs) (.inr ⟨_, rfl, hl, hm, by simpa using hz, hcell, hwz⟩)
    exact ⟨_, _, _, l', rfl, h1, h2, h3⟩
set_option maxRecDepth 100000 in
/-- One list that came in. -/
theorem ps_open {v : Value} (h : DataW.trod enc Try.prog W 0 (fun _ => true) held fuel 53 [v] = some x) : ∃ A n c l, v = .slice A n c ∧ HasPs W A n l ∧ n ≤ c ∧ c ≤ maxLen := by
  rcases open_slice Try.underlying53 h with ⟨hcs, _⟩ | ⟨y, l2, c2, m, n, D, Pl, hcs, _, hl, hm, hmm, _, hx⟩
  · simp only [List.cons.injEq, and_true] at hcs
    subst hcs
    exact ⟨none, 0, 0, [], rfl, ⟨rfl, fun x hx => absurd hx (by simp), fun h => absurd h (by simp)⟩, Nat.le_refl _, by simp⟩
  · simp only [List.cons.injEq, and_true] at hcs
    subst hcs
    simp only [if_true] at hmm
    subst hmm
    have each : ∀ r, ∃ p : PsR, r < l2 → (W.cell? (y.add (3 * r)) = some (.int .i64 p.i) ∧ W.cell? (y.add (3 * r + 1)) = some (.slice p.A p.q p.c) ∧ W.cell? (y.add (3 * r + 2)) = some (.bool p.odd) ∧ HasB W W.heap.size p.A p.q p.d ∧ p.q ≤ p.c) ∧ -9223372036854775808 ≤ p.i ∧ p.i ≤ 9223372036854775807 := by
      intro r
      by_cases hr : r < l2
      · obtain ⟨cs', h1, h2⟩ := hx r (by omega)
        rw [cellsPs] at h1
        obtain ⟨_, hlen, hcell⟩ := World.cells?_some h1
        obtain ⟨xs, k, _, _, _, hxl, hf⟩ := DataW.trod_struct Try.underlying104 h2
        match xs, hxl, cs', hlen with
        | [y0, y1, y2], _, [v0, v1, v2], _ =>
          have g0 := hf 0 _ rfl
          have g1 := hf 1 _ rfl
          have g2 := hf 2 _ rfl
          simp [cellsP1.1, cellsP1.2.1, cellsP1.2.2.1] at g0 g1 g2
          obtain ⟨z0, e0, _, b0⟩ := DataW.trod_int Try.underlying3 g0
          obtain ⟨A1, n1, c1, l1, rfl, hb1, p1, q1⟩ := bytes_openP g1
          obtain ⟨z2, e2, _⟩ := DataW.trod_bool Try.underlying4 g2
          simp only [List.cons.injEq, and_true] at e0 e2
          subst e0 e2
          have k0 := hcell 0 (by omega)
          have k1 := hcell 1 (by omega)
          have k2 := hcell 2 (by omega)
          rw [add_add, Nat.mul_comm r 3] at k0 k1 k2
          exact ⟨⟨z0, A1, n1, c1, l1, z2⟩, fun _ => ⟨⟨k0, k1, k2, hb1, p1⟩, bounds_i64 b0⟩⟩
      · exact ⟨⟨0, none, 0, 0, [], false⟩, fun q => absurd q hr⟩
    refine ⟨some y, l2, _, (List.range l2).map fun r => Classical.choose (each r), rfl, ⟨by simp, fun p hp => ?_, fun hpos => ?_⟩, hl, hm⟩
    · obtain ⟨r, hr, rfl⟩ := List.mem_map.1 hp
      exact (Classical.choose_spec (each r) (List.mem_range.1 hr)).2
    · obtain ⟨g, o, s⟩ := y
      have c0 := (Classical.choose_spec (each 0) hpos).1.1
      have hs : s = none := by
        have := World.cell?_spot c0
        simpa [Addr.add] using this
      subst hs
      refine ⟨g, o, rfl, ?_, fun i p hi => ?_⟩
      · have := World.block_lt_of_cell? W _ c0
        simpa [Addr.add] using this
      · have hlt : i < l2 := by
          have := (List.getElem?_eq_some_iff.1 hi).1
          simpa using this
        simp only [List.getElem?_map, List.getElem?_range hlt, Option.map_some, Option.some.injEq] at hi
        subst hi
        have hsp := (Classical.choose_spec (each i) hlt).1
        generalize Classical.choose (each i) = p at hsp ⊢
        obtain ⟨h1, h2, h3, h4, h5⟩ := hsp
        rw [Addr.add_lit] at h1 h2 h3
        rw [show o + i * 3 = o + 3 * i by omega]
        exact ⟨h1, by rw [Nat.add_assoc]; exact h2, by rw [Nat.add_assoc]; exact h3, h4, h5⟩
set_option maxRecDepth 100000 in
/-- A list of lists that came in. -/
theorem pps_open (h : DataW.trod enc Try.prog W 0 (fun _ => true) held fuel 40 [.slice a len cap] = some x) : ∃ ls, HasPps W W.heap.size a len ls ∧ len ≤ cap ∧ cap ≤ maxLen := by
  rcases open_slice Try.underlying40 h with ⟨hcs, _⟩ | ⟨y, l2, c2, m, n, D, Pl, hcs, _, hl, hm, hmm, _, hx⟩
  · simp only [List.cons.injEq, Value.slice.injEq, and_true] at hcs
    obtain ⟨rfl, rfl, rfl⟩ := hcs
    exact ⟨[], ⟨rfl, fun h => absurd h (by simp)⟩, Nat.le_refl _, by simp⟩
  · simp only [List.cons.injEq, Value.slice.injEq, and_true] at hcs
    obtain ⟨rfl, rfl, rfl⟩ := hcs
    simp only [if_true] at hmm
    subst hmm
    have each : ∀ r, ∃ l : List PsR, r < len → ∃ A' n' c', W.cell? (y.add r) = some (.slice A' n' c') ∧ HasPs W A' n' l ∧ n' ≤ c' ∧ c' ≤ maxLen := by
      intro r
      by_cases hr : r < len
      · obtain ⟨cs', h1, h2⟩ := hx r (by omega)
        rw [cellsP1.2.2.2.2] at h1
        obtain ⟨_, hlen, hcell⟩ := World.cells?_some h1
        match cs', hlen with
        | [v0], _ =>
          obtain ⟨A1, n1, c1, l, rfl, hp, p1, q1⟩ := ps_open h2
          have k0 := hcell 0 (by omega)
          rw [add_add, Nat.mul_one, Nat.add_zero] at k0
          exact ⟨l, fun _ => ⟨A1, n1, c1, k0, hp, p1, q1⟩⟩
      · exact ⟨[], fun q => absurd q hr⟩
    refine ⟨(List.range len).map fun r => Classical.choose (each r), ⟨by simp, fun hpos => ?_⟩, hl, hm⟩
    obtain ⟨g, o, s⟩ := y
    obtain ⟨_, _, _, c0, _⟩ := Classical.choose_spec (each 0) hpos
    have hs : s = none := by
      have := World.cell?_spot c0
      simpa [Addr.add] using this
    subst hs
    refine ⟨g, o, rfl, ?_, fun i l hi => ?_⟩
    · have := World.block_lt_of_cell? W _ c0
      simpa [Addr.add] using this
    · have hlt : i < len := by
        have := (List.getElem?_eq_some_iff.1 hi).1
        simpa using this
      simp only [List.getElem?_map, List.getElem?_range hlt, Option.map_some, Option.some.injEq] at hi
      subst hi
      have hsp := Classical.choose_spec (each i) hlt
      generalize Classical.choose (each i) = l at hsp ⊢
      obtain ⟨A', n', c', h1, h2, h3, h4⟩ := hsp
      rw [Addr.add_lit] at h1
      exact ⟨A', n', c', h1, h2, h3, h4⟩
end
/-- Is a list not too great? -/
def ltB (l : List PsR) : Bool := decide (l.length ≤ 60) && l.all fun x => decide (x.d.length ≤ 600)
end Go.Proofs.Ytadagbkfemcgfaa
