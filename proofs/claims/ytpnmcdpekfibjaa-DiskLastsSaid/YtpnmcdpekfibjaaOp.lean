/-
  Own work. An argument of type []cofferlaw5.Op.
-/
import Derived.Test.YtpnmcdpekfibjaaRpw
import Derived.Deep.Grids
import Derived.Deep.Slices
namespace Go.Proofs.Ytpnmcdpekfibjaa
open Go.RowKit Go.Deep Go.ChangeShapes
set_option linter.unusedVariables false
set_option linter.unusedSimpArgs false

structure OpR where
  kind : Int
  i : Int
  part : Int
  b : List UInt8
  keep : List Bool
  A1 : Option Addr
  n1 : Nat
  c1 : Nat
  A2 : Option Addr
  n2 : Nat
  c2 : Nat
def OpR.cells (o : OpR) : List Value := [.int .i64 o.kind, .int .i64 o.i, .int .i64 o.part, .slice o.A1 o.n1 o.c1, .slice o.A2 o.n2 o.c2]
structure OpOk (w : World) (B : Nat) (o : OpR) : Prop where
  hb : HasB w B o.A1 o.n1 o.b
  hk : HasBo w B o.A2 o.n2 o.keep
  k1 : o.n1 ≤ o.c1 ∧ o.c1 ≤ maxLen
  k2 : o.n2 ≤ o.c2 ∧ o.c2 ≤ maxLen
  bk : -9223372036854775808 ≤ o.kind ∧ o.kind ≤ 9223372036854775807
  bi : -9223372036854775808 ≤ o.i ∧ o.i ≤ 9223372036854775807
  bp : -9223372036854775808 ≤ o.part ∧ o.part ≤ 9223372036854775807
def HasOps (w : World) (B : Nat) (A : Option Addr) (n : Nat) (ops : List OpR) : Prop :=
  n = ops.length ∧ (0 < n → ∃ g o, A = some ⟨g, o, none⟩ ∧ g < B ∧ ∀ i op, ops[i]? = some op → OpOk w B op ∧ ∀ k v, op.cells[k]? = some v → w.cell? ⟨g, o + (5 * i + k), none⟩ = some v)
theorem HasBo.below {w w' : World} {B n : Nat} {A : Option Addr} {l : List Bool} (h : HasBo w B A n l) (hb : Below B w w') : HasBo w' B A n l :=
  ⟨h.1, fun hn => by
    obtain ⟨g, o, e, hg, hc⟩ := h.2 hn
    exact ⟨g, o, e, hg, fun i b hi => (hb.cell (by exact hg)).trans (hc i b hi)⟩⟩
theorem OpOk.below {w w' : World} {B : Nat} {o : OpR} (h : OpOk w B o) (hb : Below B w w') : OpOk w' B o := ⟨h.hb.below hb, h.hk.below hb, h.k1, h.k2, h.bk, h.bi, h.bp⟩
theorem HasOps.below {w w' : World} {B n : Nat} {A : Option Addr} {ops : List OpR} (h : HasOps w B A n ops) (hb : Below B w w') : HasOps w' B A n ops :=
  ⟨h.1, fun hn => by
    obtain ⟨g, o, e, hg, hc⟩ := h.2 hn
    exact ⟨g, o, e, hg, fun i op hi => ⟨(hc i op hi).1.below hb, fun k v hk => (hb.cell (by exact hg)).trans ((hc i op hi).2 k v hk)⟩⟩⟩

theorem cellsOp : Try.prog.cellsOf 32 = 5 := by kernel_rfl
theorem cells1 : Try.prog.cellsOf 3 = 1 ∧ Try.prog.cellsOf 29 = 1 ∧ Try.prog.cellsOf 30 = 1 ∧ Try.prog.cellsOf 5 = 1 ∧ Try.prog.cellsOf 4 = 1 := ⟨by kernel_rfl, by kernel_rfl, by kernel_rfl, by kernel_rfl, by kernel_rfl⟩
section
variable {H : Type} {enc : TypeId × Value → H} {W : World} {held : Bool} {fuel len cap : Nat} {a : Option Addr} {x : DataW H × List MemPlace}
theorem bytes_open {v : Value} (h : DataW.trod enc Try.prog W 0 (fun _ => true) held fuel 29 [v] = some x) : ∃ A n c l, v = .slice A n c ∧ HasB W W.heap.size A n l ∧ n ≤ c ∧ c ≤ maxLen := by
  rcases open_ints Try.underlying29 Try.underlying5 cells1.2.2.2.1 h with ⟨hcs, _⟩ | ⟨y, l, c, zs, hcs, _, hl, hm, hz, _, hcell, hwz⟩
  · simp only [List.cons.injEq, and_true] at hcs
    subst hcs
    exact ⟨none, 0, 0, [], rfl, HasB.nil _ _ _, Nat.le_refl _, by simp⟩
  · simp only [List.cons.injEq, and_true] at hcs
    subst hcs
    obtain ⟨l', h1, h2, h3⟩ := has_of_row (w := W) (a := some y) (len := l) (cap := c) (zs := zs) (.inr ⟨_, rfl, hl, hm, by simpa using hz, hcell, hwz⟩)
    exact ⟨_, _, _, l', rfl, h1, h2, h3⟩
theorem bools_open {v : Value} (h : DataW.trod enc Try.prog W 0 (fun _ => true) held fuel 30 [v] = some x) : ∃ A n c l, v = .slice A n c ∧ HasBo W W.heap.size A n l ∧ n ≤ c ∧ c ≤ maxLen := by
  rcases open_bools Try.underlying30 Try.underlying4 cells1.2.2.2.2 h with ⟨hcs, _⟩ | ⟨y, l, c, F, hcs, _, hl, hm, _, hcell⟩
  · simp only [List.cons.injEq, and_true] at hcs
    subst hcs
    exact ⟨none, 0, 0, [], rfl, ⟨rfl, fun h => absurd h (by simp)⟩, Nat.le_refl _, by simp⟩
  · simp only [List.cons.injEq, and_true] at hcs
    subst hcs
    refine ⟨_, _, _, (List.range l).map F, rfl, ⟨by simp, fun hpos => ?_⟩, hl, hm⟩
    obtain ⟨g, o, s⟩ := y
    have c0 := hcell 0 (by omega)
    have hs : s = none := by
      have := World.cell?_spot c0
      simpa [Addr.add] using this
    subst hs
    refine ⟨g, o, rfl, ?_, fun i u hu => ?_⟩
    · have := World.block_lt_of_cell? W _ c0
      simpa [Addr.add] using this
    · have hi : i < l := by
        have := (List.getElem?_eq_some_iff.1 hu).1
        simpa using this
      have := hcell i (by omega)
      rw [Addr.add_lit] at this
      rw [this]
      simp only [List.getElem?_map, List.getElem?_range hi, Option.map_some, Option.some.injEq] at hu
      rw [hu]
set_option maxRecDepth 100000 in
/-- A list of operations that came in. -/
theorem ops_open (h : DataW.trod enc Try.prog W 0 (fun _ => true) held fuel 22 [.slice a len cap] = some x) : ∃ ops, HasOps W W.heap.size a len ops ∧ len ≤ cap ∧ cap ≤ maxLen := by
  rcases open_slice Try.underlying22 h with ⟨hcs, _⟩ | ⟨y, l2, c2, m, n, D, Pl, hcs, _, hl, hm, hmm, _, hx⟩
  · simp only [List.cons.injEq, Value.slice.injEq, and_true] at hcs
    obtain ⟨rfl, rfl, rfl⟩ := hcs
    exact ⟨[], ⟨rfl, fun h => absurd h (by simp)⟩, Nat.le_refl _, by simp⟩
  · simp only [List.cons.injEq, Value.slice.injEq, and_true] at hcs
    obtain ⟨rfl, rfl, rfl⟩ := hcs
    simp only [if_true] at hmm
    subst hmm
    have each : ∀ r, ∃ op : OpR, r < len → OpOk W W.heap.size op ∧ ∀ k v, op.cells[k]? = some v → W.cell? (y.add (5 * r + k)) = some v := by
      intro r
      by_cases hr : r < len
      · obtain ⟨cs', h1, h2⟩ := hx r (by omega)
        rw [cellsOp] at h1
        obtain ⟨_, hlen, hcell⟩ := World.cells?_some h1
        obtain ⟨xs, k, _, _, _, hxl, hf⟩ := DataW.trod_struct Try.underlying32 h2
        match xs, hxl, cs', hlen with
        | [y0, y1, y2, y3, y4], _, [v0, v1, v2, v3, v4], _ =>
          have g0 := hf 0 _ rfl
          have g1 := hf 1 _ rfl
          have g2 := hf 2 _ rfl
          have g3 := hf 3 _ rfl
          have g4 := hf 4 _ rfl
          simp [cells1.1, cells1.2.1, cells1.2.2.1] at g0 g1 g2 g3 g4
          obtain ⟨z0, e0, _, b0⟩ := DataW.trod_int Try.underlying3 g0
          obtain ⟨z1, e1, _, b1⟩ := DataW.trod_int Try.underlying3 g1
          obtain ⟨z2, e2, _, b2⟩ := DataW.trod_int Try.underlying3 g2
          simp only [List.cons.injEq, and_true] at e0 e1 e2
          obtain ⟨A1, n1, c1, l1, rfl, hb1, p1, q1⟩ := bytes_open g3
          obtain ⟨A2, n2, c2, l2, rfl, hb2, p2, q2⟩ := bools_open g4
          subst e0 e1 e2
          refine ⟨⟨z0, z1, z2, l1, l2, A1, n1, c1, A2, n2, c2⟩, fun _ => ⟨⟨hb1, hb2, ⟨p1, q1⟩, ⟨p2, q2⟩, bounds_i64 b0, bounds_i64 b1, bounds_i64 b2⟩, fun k v hk => ?_⟩⟩
          have hk5 : k < 5 := by
            have := (List.getElem?_eq_some_iff.1 hk).1
            simpa [OpR.cells] using this
          have := hcell k (by omega)
          rw [add_add, Nat.mul_comm r 5] at this
          rw [this]
          exact hk
      · exact ⟨⟨0, 0, 0, [], [], none, 0, 0, none, 0, 0⟩, fun q => absurd q hr⟩
    refine ⟨(List.range len).map fun r => Classical.choose (each r), ⟨by simp, fun hpos => ?_⟩, hl, hm⟩
    obtain ⟨g, o, s⟩ := y
    have c0 := (Classical.choose_spec (each 0) hpos).2 0 _ rfl
    have hs : s = none := by
      have := World.cell?_spot c0
      simpa [Addr.add] using this
    subst hs
    refine ⟨g, o, rfl, ?_, fun i op hi => ?_⟩
    · have := World.block_lt_of_cell? W _ c0
      simpa [Addr.add] using this
    · have hlt : i < len := by
        have := (List.getElem?_eq_some_iff.1 hi).1
        simpa using this
      simp only [List.getElem?_map, List.getElem?_range hlt, Option.map_some, Option.some.injEq] at hi
      subst hi
      obtain ⟨h1, h2⟩ := Classical.choose_spec (each i) hlt
      refine ⟨h1, fun k v hk => ?_⟩
      have := h2 k v hk
      rwa [Addr.add_lit] at this
end
end Go.Proofs.Ytpnmcdpekfibjaa
