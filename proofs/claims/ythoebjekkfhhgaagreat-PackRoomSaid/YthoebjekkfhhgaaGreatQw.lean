/-
  Own work.
-/
import Derived.Test.YthoebjekkfhhgaaGreatG3
import Derived.Test.YthoebjekkfhhgaaGreatG7
set_option linter.unusedVariables false
set_option linter.unusedSimpArgs false
namespace Go.Proofs.YthoebjekkfhhgaaGreat
open Go.RowKit Go.Maps
def UpJ (Z : DK) (w0 W : World) (g gd gp n : Nat) (p : Pt) (j : JM) : Prop :=
 ∃ S, OwD Z w0 W gd S n p.m /\ JO W g gd gp n p.e j /\ ¬ S g /\ ¬ S gp /\ w0.heap.size <= g /\ w0.heap.size <= gp
def OnD (Z : DK) (w0 W : World) (gd n : Nat) (m : RM) : Prop := ∃ S, OwD Z w0 W gd S n m
section
variable {Z : DK} {w0 W W' : World} {g gd gp n V T u r : Nat} {p p' : Pt} {j j' : JM} {m : RM} {H : Nat -> List UInt8} {S : Nat -> Prop}
theorem UpJ.bel (a : UpJ Z w0 W g gd gp n p j) : Below w0.heap.size w0 W := by
 obtain ⟨S, d, _⟩ := a
 exact d.bel
theorem OnD.bel (a : OnD Z w0 W gd n m) : Below w0.heap.size w0 W := by
 obtain ⟨S, d⟩ := a
 exact d.bel
theorem UpJ.below (a : UpJ Z w0 W g gd gp n p j) (hb : Below W.heap.size W W') : UpJ Z w0 W' g gd gp n p j := by
 obtain ⟨S, d, o, h⟩ := a
 exact ⟨S, d.below hb, o.below hb, h⟩
theorem OnD.below (a : OnD Z w0 W gd n m) (hb : Below W.heap.size W W') : OnD Z w0 W' gd n m := by
 obtain ⟨S, d⟩ := a
 exact ⟨S, d.below hb⟩
theorem UpJ.drew (a : UpJ Z w0 W g gd gp n p j) : UpJ Z w0 W.drew g gd gp n p j := by
 obtain ⟨S, d, o, h⟩ := a
 exact ⟨S, d.drew, o.drew, h⟩
theorem UpJ.step (a : UpJ Z w0 W g gd gp n p j) (hS : ∀ S, OwD Z w0 W gd S n p.m -> JO W g gd gp n p.e j -> ¬ S g -> ¬ S gp -> LeftJ Z W g gd gp n S p' j' W') : UpJ Z w0 W' g gd gp n p' j' := by
 obtain ⟨S, d, o, h1, h2, h3, h4⟩ := a
 obtain ⟨⟨S2, d2, hs2⟩, o2, y2⟩ := hS S d o h1 h2
 have hlt := o.lt
 have hltp := o.ltp
 have hz := d.bel.size
 refine ⟨S2, ⟨d2, fun k hk => (hs2 k hk).elim (d.s0 k) (fun h => by omega), d.bel.trans (y2.to_below (fun k hk => ?_) hz)⟩, o2, fun hh => (hs2 g hh).elim h1 (fun h => by omega), fun hh => (hs2 gp hh).elim h2 (fun h => by omega), h3, h4⟩
 rcases hk with h | h | h
 · exact d.s0 k h
 · omega
 · omega
theorem new_up (Z : DK) (w0 : World) (W : World) (hb : Below w0.heap.size w0 W) (n : Nat) (h1 : 32 <= n) (h2 : n <= 4096) : Calls Tryz.prog 67 #[.int .i64 (n : Int)] W fun e W' => ∃ g, e = .returned (.pointer (some ⟨g, 0, none⟩)) /\ OnD Z w0 W' g n (newM n) := by
 refine (Z.new_any W n h1 h2).mono ?_
 rintro e W' ⟨g, S, rfl, d, s, b⟩
 exact ⟨g, rfl, S, d, fun k hk => Nat.le_trans hb.size (s k hk), hb.trans (b.mono hb.size)⟩
theorem format_up (a : OnD Z w0 W gd n m) (r : Nat) (ok : m.Ok n) (hw : m.wrote <= 1073730000) (h8 : 8 <= r) (h1k : r <= 1024) (hn : r + 10 <= n) :
 Calls Tryz.prog 68 #[.pointer (some ⟨gd, 0, none⟩), .int .i64 (r : Int)] W fun en W' => en = .returned (.int .i64 (fmtP m n r).e) /\ OnD Z w0 W' gd n (fmtP m n r).m := by
 obtain ⟨S, d⟩ := a
 refine (format_any r d.d ok hw h8 h1k hn).mono ?_
 rintro en W' ⟨he, S', d', hs', ho⟩
 exact ⟨he, S', d', fun k hk => (hs' k hk).elim (d.s0 k) (fun h => Nat.le_trans d.bel.size h), d.bel.trans (ho.to_below d.s0 d.bel.size)⟩
def DS (p : Pt) (n V T r : Nat) (H : Nat -> List UInt8) : Prop := ∃ j u, SJ p n V j T u r H
theorem usedL_le : ∀ (L : List (List Ch)), L.length <= usedL L
 | [] => Nat.le_refl _
 | l :: L => by have := usedL_le L; rw [usedL_cons, List.length_cons]; omega
theorem DS.fmt {f : Nat -> List UInt8} (q : QP ⟨m, 0⟩ n f V) (hV : V + n + 2 < 1073741824) (r : Nat) (r1 : 8 <= r) (r2 : r <= 1024) (r3 : r + 10 <= n) : DS (fmtP m n r) n (V + n + 1) 1 r (fun _ => zsec) := by
 obtain ⟨f, d, h⟩ := DJ.format q hV r r1 r2 r3
 refine ⟨_, _, 1, 1, 0, [], f, d, rfl, rfl, rfl, fun i hi => ?_⟩
 rw [<- h i hi]
 unfold homeOf
 have e0 : ((jof (fmtP m n r).m n 1 1 0 r []).fresh.getD i emp).size = 0 := by
  show ((List.replicate _ emp).getD i emp).size = 0
  rw [List.getD_eq_getElem?_getD, List.getElem?_replicate]
  split <;> rfl
 rw [if_neg (fun h => h e0)]
 rfl
theorem turn_up (a : UpJ Z w0 W g gd gp n p j) (b : SJ p n V j T u r H) :
 Calls Tryz.prog 40 #[.pointer (some ⟨g, 0, none⟩)] W (RetW W (.int .u64 ((T - 1 : Nat) : Int))) := by
 obtain ⟨b1, b2, b3, b4, b5, b6, b7, b8, b9, b10, b11, b12⟩ := b.homes
 obtain ⟨S, d, o, _⟩ := a
 have := jturn_any o (by rw [b3]; exact b10)
 rwa [b3] at this
end
end Go.Proofs.YthoebjekkfhhgaaGreat
