/-
  Own work. Calls of the journal beside blocks of the call's own.
-/
import Derived.Test.YtadagbkfemcgfaaGreatOb
namespace Go.Proofs.YtadagbkfemcgfaaGreat
open Go.RowKit Go.Maps
set_option linter.unusedVariables false
set_option linter.unusedSimpArgs false

/-! ### Calls of the journal beside blocks of the call's own -/
section
variable {Z : DK} {w0 W W' : World} {g gd gp n : Nat} {p p' : Pt} {j j' : JM} {B : Nat → Prop}
theorem UpB.call {f : Nat} {args : Array Value} {R : Ending → World → Prop} (a : UpB Z w0 W g gd gp n p j B)
    (h : ∀ S, Z.D W gd S n p.m → JO W g gd gp n p.e j → Apart W g gp S → Calls Tryz.prog f args W fun en W' => R en W' ∧ LeftJ Z W g gd gp n S p' j' W') :
    Calls Tryz.prog f args W fun en W' => R en W' ∧ UpB Z w0 W' g gd gp n p' j' B ∧ Only (fun k => ¬ B k) W W' := by
  obtain ⟨S, d, o, h1, h2, h3, h4, h5⟩ := a
  refine (h S d.d o ⟨h1, h2, o.lt, o.ltp, o.ne⟩).mono ?_
  rintro en W' ⟨hr, ⟨S2, d2, hs2⟩, o2, y2⟩
  have hlt := o.lt
  have hltp := o.ltp
  have hz := d.bel.size
  have hys := y2.size
  refine ⟨hr, ⟨S2, ⟨d2, fun k hk => (hs2 k hk).elim (d.s0 k) (fun h => by omega), d.bel.trans (y2.to_below (fun k hk => ?_) hz)⟩, o2, fun hh => (hs2 g hh).elim h1 (fun h => by omega), fun hh => (hs2 gp hh).elim h2 (fun h => by omega), h3, h4, fun k hk => ?_⟩, y2.mono (fun k _ hk hb => ?_)⟩
  · rcases hk with h | h | h
    · exact d.s0 k h
    · omega
    · omega
  · obtain ⟨q1, q2, q3, q4, q5⟩ := h5 k hk
    exact ⟨fun hh => (hs2 k hh).elim q1 (fun h => by omega), q2, q3, q4, by omega⟩
  · obtain ⟨q1, q2, q3, q4, q5⟩ := h5 k hb
    rcases hk with h | h | h
    · exact q1 h
    · exact q2 h
    · exact q3 h
theorem UpB.jo (a : UpB Z w0 W g gd gp n p j B) : JO W g gd gp n p.e j := by
  obtain ⟨S, d, o, _⟩ := a
  exact o
theorem UpB.homesC (a : UpB Z w0 W g gd gp n p j B) (ok : p.m.Ok n) : Calls Tryz.prog 64 #[.pointer (some ⟨g, 0, none⟩)] W (RetV2 W (.int .i64 (j.homes n : Nat))) := by
  obtain ⟨S, d, o, _⟩ := a
  exact jhomes_any o d.d ok
theorem UpB.turnC (a : UpB Z w0 W g gd gp n p j B) (ht : 1 ≤ j.k.turn) : Calls Tryz.prog 38 #[.pointer (some ⟨g, 0, none⟩)] W (RetW W (.int .u64 ((j.k.turn - 1 : Nat) : Int))) := jturn_any a.jo ht
theorem UpB.readC (a : UpB Z w0 W g gd gp n p j B) (ok : p.m.Ok n) (i : Int) (hi : -9223372036854775808 ≤ i ∧ i ≤ 9223372036854775807) :
    Calls Tryz.prog 42 #[.pointer (some ⟨g, 0, none⟩), .int .i64 i] W fun en W' => (∃ A q c, en = .returned (.tuple #[.slice A q c, .int .i64 (jrE p n j i)]) ∧ OwnX W' W.heap.size (.slice A q c) (jrS p n j i)) ∧ UpB Z w0 W' g gd gp n (jrP p n j i) j B ∧ Only (fun k => ¬ B k) W W' :=
  a.call fun S d o ap => (jread_any i o d ok hi ap).mono (by
    rintro en W' ⟨A, q, c, he, ho, lj⟩
    exact ⟨⟨A, q, c, he, ho⟩, lj⟩)
theorem UpB.commitC (a : UpB Z w0 W g gd gp n p j B) (ok : p.m.Ok n) (hw : p.m.wrote ≤ 1073720000) (A : Option Addr) (nl cl : Nat) (l : List Pu) (hp : HasPu W A nl l) (hn : nl ≤ 1000) (hdl : ∀ x ∈ l, x.data.length ≤ 1073741824) (hu : j.used ≤ j.k.ring) :
    Calls Tryz.prog 37 #[.pointer (some ⟨g, 0, none⟩), .slice A nl cl] W fun en W' => en = .returned (.int .i64 (cmt p n j l).e) ∧ UpB Z w0 W' g gd gp n (cmt p n j l).p (cmt p n j l).j B ∧ Only (fun k => ¬ B k) W W' :=
  a.call fun S d o ap => jcommit_any A nl cl l o d ap ok hw hp hn hdl hu
end
end Go.Proofs.YtadagbkfemcgfaaGreat
