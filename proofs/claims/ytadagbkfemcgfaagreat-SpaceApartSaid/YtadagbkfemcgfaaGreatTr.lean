/-
  Own work. Reads of a journal and of a transaction whose bytes are kept apart.
-/
import Derived.Test.YtadagbkfemcgfaaGreatJr2
import Derived.Test.YtadagbkfemcgfaaGreatTg
namespace Go.Proofs.YtadagbkfemcgfaaGreat
open Go.RowKit Go.Maps
set_option linter.unusedVariables false
set_option linter.unusedSimpArgs false

/-- The block of a slice. -/
def InB (A : Option Addr) (k : Nat) : Prop := ∃ a, A = some a ∧ a.block = k
section
variable {Z : DK} {w0 w W W' : World} {gt g gd gp n V T Tt u r h q : Nat} {p : Pt} {j : JM} {H : Nat → List UInt8} {B M : Nat → Prop} {ws : List ByteArray}
/-- A quiet Read; what comes back stands beside the blocks of the call's own. -/
theorem UpB.readK (a : UpB Z w0 W g gd gp n p j B) (b : SJ p n V j T u r H) (hV : V ≤ 1073000000) (i : Nat) (hi : i < n - 2 - r) :
    Calls Tryz.prog 42 #[.pointer (some ⟨g, 0, none⟩), .int .i64 (i : Int)] W fun en W' => ∃ A q c, en = .returned (.tuple #[.slice A q c, .int .i64 0]) ∧ OwnX W' W.heap.size (.slice A q c) (H i) ∧ UpB Z w0 W' g gd gp n p j (fun k => B k ∨ InB A k) ∧ Only (fun k => ¬ B k) W W' := by
  obtain ⟨r1, r2, r3⟩ := b.read hV hi
  obtain ⟨_, ok, _, hw, _, _⟩ := b.jok hV
  have hn2 := ok.n2
  have a' := a
  obtain ⟨S, d, o, h1, h2, h3, h4, h5⟩ := a'
  refine (jread2_any (i : Int) o d.d ok (by omega) ⟨h1, h2, o.lt, o.ltp, o.ne⟩).mono ?_
  rintro en W' ⟨A, q, c, he, ho, lj, S9, d9, hs9, ha9⟩
  rw [r1] at he
  rw [r2] at ho
  rw [r3] at lj d9
  obtain ⟨⟨S2, d2, hs2⟩, o2, y2⟩ := lj
  have hlt := o.lt
  have hltp := o.ltp
  have hz := d.bel.size
  have hys := y2.size
  refine ⟨A, q, c, he, ho, ⟨S9, ⟨d9, fun k hk => (hs9 k hk).elim (d.s0 k) (fun h => by omega), d.bel.trans (y2.to_below (fun k hk => ?_) hz)⟩, o2, fun hh => (hs9 g hh).elim h1 (fun h => by omega), fun hh => (hs9 gp hh).elim h2 (fun h => by omega), h3, h4, fun k hk => ?_⟩, y2.mono (fun k _ hk hb => ?_)⟩
  · rcases hk with h | h | h
    · exact d.s0 k h
    · omega
    · omega
  · rcases hk with hk | ⟨x, hx, hxk⟩
    · obtain ⟨q1, q2, q3, q4, q5⟩ := h5 k hk
      exact ⟨fun hh => (hs9 k hh).elim q1 (fun h => by omega), q2, q3, q4, by omega⟩
    · obtain ⟨z1, z2, z3⟩ := ha9 x hx
      subst hxk
      by_cases hq : 0 < q
      · obtain ⟨g', e', e1, e2, _⟩ := ho.head hq
        rw [hx] at e'
        injection e' with e'
        subst e'
        exact ⟨z1, z2, z3, by dsimp only; omega, e2⟩
      · have hq0 : q = 0 := by omega
        subst hq0
        have hl := ho.len
        rcases ho.form with ⟨e, _⟩ | ⟨t, g', c', cur, e, f1, f2, _⟩
        · simp only [Value.slice.injEq] at e
          rw [hx] at e
          cases e.1
        · simp only [Value.slice.injEq] at e
          rw [hx] at e
          have e1 := e.1
          injection e1 with e1
          subst e1
          exact ⟨z1, z2, z3, by dsimp only; omega, f2⟩
  · obtain ⟨q1, q2, q3, q4, q5⟩ := h5 k hb
    rcases hk with h | h | h
    · exact q1 h
    · exact q2 h
    · exact q3 h
set_option maxRecDepth 100000 in
/-- A transaction's Read of what it did not write. -/
theorem tread_up (a : UpB Z w0 W g gd gp n p j B) (b : SJ p n V j T u r H) (hV : V ≤ 1073000000) (t : TO W gt g Tt (n - 2 - r) q ws M) (i : Nat) (hi : i < n - 2 - r) (hno : (ws.getD i emp).size = 0) :
    Calls Tryz.prog 28 #[.pointer (some ⟨gt, 0, none⟩), .int .i64 (i : Int)] W fun en W' => ∃ A q c, en = .returned (.tuple #[.slice A q c, .int .i64 0]) ∧ OwnX W' W.heap.size (.slice A q c) (H i) ∧ UpB Z w0 W' g gd gp n p j (fun k => B k ∨ InB A k) ∧ Only (fun k => ¬ B k) W W' := by
  have C := Lib.hid (tfin_any t)
  have CR := Lib.hid (a.readK b hV i hi)
  obtain ⟨_, ok, _⟩ := b.jok hV
  have hn2 := ok.n2
  have hib : -9223372036854775808 ≤ (i : Int) ∧ (i : Int) ≤ 9223372036854775807 := by omega
  obtain ⟨gm, c0, c1, c2, v, _⟩ := t.cells
  obtain ⟨⟨D, pb, hm, hD, hb⟩, mg, ml, wl, wz, hh⟩ := v
  have HM := Lib.hid hm
  have HD := Lib.hid hD
  have HN : Hid (TNo ws (n - 2 - r) (i : Int)) := Lib.hid (.inr (.inr (by simpa using hno)))
  obtain ⟨s, hs⟩ : ∃ s, H i = s := ⟨_, rfl⟩
  rw [hs] at CR ⊢
  clear a b t ok hm hD hb ml wl wz hno hs
  go_enter Tryz.func28, Tryz.ntmps28
  go_wp2_with (first
    | (go_at_call 39; refine C.out.mono ?_; rintro e w1 ⟨rfl, rfl⟩)
    | (refine wp_lookT_no rfl (.tmp 15) (.tmp 16) rfl rfl (i : Int) hib rfl D pb HM.out HD.out HN.out ?_; intro v0)
    | (go_at_call 42; refine CR.out.mono ?_; rintro e w2 ⟨A2, q2, c2', rfl, x2, u2, y2⟩
       have X2 := Lib.hid x2
       have U2 := Lib.hid u2
       have Y2 := Lib.hid y2
       clear x2 u2 y2))
  go_ret2
  exact ⟨_, _, _, rfl, X2.out, U2.out, Y2.out⟩
end
end Go.Proofs.YtadagbkfemcgfaaGreat
