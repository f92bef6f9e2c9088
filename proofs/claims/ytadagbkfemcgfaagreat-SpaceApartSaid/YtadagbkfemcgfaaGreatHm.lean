/-
  Own work. A journal beside blocks of the call's own; all its home sectors as texts (homes).
-/
import Derived.Test.YtadagbkfemcgfaaGreatAk
namespace Go.Proofs.YtadagbkfemcgfaaGreat
open Go.RowKit Go.Maps
set_option linter.unusedVariables false
set_option linter.unusedSimpArgs false

/-- A journal made since w0, with its disk, beside the blocks B of the call's own. -/
def UpB (Z : DK) (w0 W : World) (g gd gp n : Nat) (p : Pt) (j : JM) (B : Nat → Prop) : Prop :=
  ∃ S, OwD Z w0 W gd S n p.m ∧ JO W g gd gp n p.e j ∧ ¬ S g ∧ ¬ S gp ∧ w0.heap.size ≤ g ∧ w0.heap.size ≤ gp ∧ ∀ k, B k → ¬ S k ∧ k ≠ g ∧ k ≠ gp ∧ w0.heap.size ≤ k ∧ k < W.heap.size
section
variable {Z : DK} {w0 W W' : World} {g gd gp n V T u r : Nat} {p p' : Pt} {j j' : JM} {H : Nat → List UInt8} {S B B' : Nat → Prop}
theorem UpB.up (a : UpB Z w0 W g gd gp n p j B) : UpJ Z w0 W g gd gp n p j := by
  obtain ⟨S, d, o, h1, h2, h3, h4, _⟩ := a
  exact ⟨S, d, o, h1, h2, h3, h4⟩
theorem UpJ.b (a : UpJ Z w0 W g gd gp n p j) : UpB Z w0 W g gd gp n p j (fun _ => False) := by
  obtain ⟨S, d, o, h1, h2, h3, h4⟩ := a
  exact ⟨S, d, o, h1, h2, h3, h4, fun k hk => hk.elim⟩
theorem UpB.own (a : UpB Z w0 W g gd gp n p j B) (ho : Only (fun k => B k ∨ W.heap.size ≤ k) W W') (hB : ∀ k, B' k → B k ∨ (W.heap.size ≤ k ∧ k < W'.heap.size)) : UpB Z w0 W' g gd gp n p j B' := by
  obtain ⟨S, d, o, h1, h2, h3, h4, h5⟩ := a
  have hz := d.bel.size
  have hs := ho.size
  have hlt := o.lt
  have hltp := o.ltp
  refine ⟨S, ⟨Z.only d.d ho (fun k hk hh => hh.elim (fun h => (h5 k h).1 hk) (fun h => by have := d.slt k hk; omega)), d.s0, d.bel.trans (ho.to_below (fun k hk => hk.elim (fun h => (h5 k h).2.2.2.1) (fun h => by omega)) hz)⟩, o.only ho (fun hh => hh.elim (fun h => (h5 g h).2.1 rfl) (fun h => by omega)) (fun hh => hh.elim (fun h => (h5 gp h).2.2.1 rfl) (fun h => by omega)), h1, h2, h3, h4, fun k hk => ?_⟩
  rcases hB k hk with h | h
  · obtain ⟨q1, q2, q3, q4, q5⟩ := h5 k h
    exact ⟨q1, q2, q3, q4, by omega⟩
  · exact ⟨fun hh => by have := d.slt k hh; omega, by omega, by omega, by omega, h.2⟩
theorem UpB.below (a : UpB Z w0 W g gd gp n p j B) (hb : Below W.heap.size W W') : UpB Z w0 W' g gd gp n p j B := a.own (Only.of_below hb (Nat.le_refl _)) (fun k hk => .inl hk)
theorem UpB.less (a : UpB Z w0 W g gd gp n p j B) (h : ∀ k, B' k → B k) : UpB Z w0 W g gd gp n p j B' := a.own (Only.refl _ _) (fun k hk => .inl (h k hk))
/-- A call that leaves a journal's own blocks turned alone. -/
theorem UpB.left (a : UpB Z w0 W g gd gp n p j B) (h : ∀ S, Z.D W gd S n p.m → JO W g gd gp n p.e j → Apart W g gp S → LeftJ Z W g gd gp n S p' j' W') : UpB Z w0 W' g gd gp n p' j' B ∧ Only (fun k => ¬ B k) W W' := by
  obtain ⟨S, d, o, h1, h2, h3, h4, h5⟩ := a
  obtain ⟨⟨S2, d2, hs2⟩, o2, y2⟩ := h S d.d o ⟨h1, h2, o.lt, o.ltp, o.ne⟩
  have hlt := o.lt
  have hltp := o.ltp
  have hz := d.bel.size
  have hys := y2.size
  refine ⟨⟨S2, ⟨d2, fun k hk => (hs2 k hk).elim (d.s0 k) (fun h => by omega), d.bel.trans (y2.to_below (fun k hk => ?_) hz)⟩, o2, fun hh => (hs2 g hh).elim h1 (fun h => by omega), fun hh => (hs2 gp hh).elim h2 (fun h => by omega), h3, h4, fun k hk => ?_⟩, y2.mono (fun k _ hk hb => ?_)⟩
  · rcases hk with h | h | h
    · exact d.s0 k h
    · omega
    · omega
  · obtain ⟨q1, q2, q3, q4, q5⟩ := h5 k hk
    exact ⟨fun hh => (hs2 k hh).elim q1 (fun h => by omega), q2, q3, q4, by omega⟩
  · obtain ⟨q1, q2, q3, q4, q5⟩ := h5 k hb
    rcases hk with h | h | h
    · exact q1 h
    · exact q2 h
    · exact q3 h
theorem UpB.read (a : UpB Z w0 W g gd gp n p j B) (b : SJ p n V j T u r H) (hV : V ≤ 1073000000) (i : Nat) (hi : i < n - 2 - r) :
    Calls Tryz.prog 42 #[.pointer (some ⟨g, 0, none⟩), .int .i64 (i : Int)] W fun en W' => ∃ A q c, en = .returned (.tuple #[.slice A q c, .int .i64 0]) ∧ OwnX W' W.heap.size (.slice A q c) (H i) ∧ UpB Z w0 W' g gd gp n p j B ∧ Only (fun k => ¬ B k) W W' := by
  obtain ⟨r1, r2, r3⟩ := b.read hV hi
  obtain ⟨_, ok, _, hw, _, _⟩ := b.jok hV
  have hn2 := ok.n2
  have a' := a
  obtain ⟨S, d, o, h1, h2, h3, h4, h5⟩ := a'
  refine (jread_any (i : Int) o d.d ok (by omega) ⟨h1, h2, o.lt, o.ltp, o.ne⟩).mono ?_
  rintro en W' ⟨A, q, c, he, ho, lj⟩
  rw [r1] at he
  rw [r2] at ho
  rw [r3] at lj
  obtain ⟨⟨S2, d2, hs2⟩, o2, y2⟩ := lj
  have hlt := o.lt
  have hltp := o.ltp
  have hz := d.bel.size
  have hys := y2.size
  refine ⟨A, q, c, he, ho, ⟨S2, ⟨d2, fun k hk => (hs2 k hk).elim (d.s0 k) (fun h => by omega), d.bel.trans (y2.to_below (fun k hk => ?_) hz)⟩, o2, fun hh => (hs2 g hh).elim h1 (fun h => by omega), fun hh => (hs2 gp hh).elim h2 (fun h => by omega), h3, h4, fun k hk => ?_⟩, y2.mono (fun k _ hk hb => ?_)⟩
  · rcases hk with h | h | h
    · exact d.s0 k h
    · omega
    · omega
  · obtain ⟨q1, q2, q3, q4, q5⟩ := h5 k hk
    exact ⟨fun hh => (hs2 k hh).elim q1 (fun h => by omega), q2, q3, q4, by omega⟩
  · obtain ⟨q1, q2, q3, q4, q5⟩ := h5 k hb
    rcases hk with h | h | h
    · exact q1 h
    · exact q2 h
    · exact q3 h
/-- The texts of the first k homes. -/
def hsL (H : Nat → List UInt8) (k : Nat) : List (List UInt8) := (List.range k).map H
theorem hsL_succ (H : Nat → List UInt8) (k : Nat) : hsL H (k + 1) = hsL H k ++ [H k] := by unfold hsL; rw [List.range_succ, List.map_append]; rfl
theorem hsL_len (H : Nat → List UInt8) (k : Nat) : (hsL H k).length = k := by simp [hsL]
def strs (l : List (List UInt8)) : List Value := l.map fun x => Value.string (strB x)
theorem OwnV.hasS {w : World} {base n c : Nat} {A : Option Addr} {xs : List (List UInt8)} (h : OwnV 9 w base (.slice A n c) (strs xs)) : HasS w A n xs := by
  have hl := h.len
  refine ⟨by rw [hl]; simp [strs], fun hn => ?_⟩
  obtain ⟨g, rfl, _, _, hc⟩ := h.at_ hn
  refine ⟨g, 0, rfl, fun k x hx => ?_⟩
  rw [Nat.zero_add]
  refine hc k _ ?_
  unfold strs
  rw [List.getElem?_map, hx]
  rfl
end
end Go.Proofs.YtadagbkfemcgfaaGreat
