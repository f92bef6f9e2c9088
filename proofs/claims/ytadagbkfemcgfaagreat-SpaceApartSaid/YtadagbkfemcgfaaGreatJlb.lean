/-
  Own work. The journal beside blocks of the call's own.
-/
import Derived.Test.YtadagbkfemcgfaaGreatJlo
namespace Go.Proofs.YtadagbkfemcgfaaGreat
open Go.RowKit Go.Maps
set_option linter.unusedVariables false
set_option linter.unusedSimpArgs false

section
variable {Z : DK} {w w' W W' W0 : World} {g gd gp n : Nat} {S T : Nat → Prop} {e : Int} {j : JM} {m : RM} {p : Pt} {B B' B0 : Nat → Prop}
/-- The journal beside blocks of the call's own. -/
def LeftB (Z : DK) (w : World) (g gd gp n : Nat) (S : Nat → Prop) (p : Pt) (j : JM) (B : Nat → Prop) (W : World) : Prop :=
  ∃ S2, Z.D W gd S2 n p.m ∧ (∀ k, S2 k → S k ∨ w.heap.size ≤ k) ∧ JO W g gd gp n p.e j ∧ Only (fun k => S k ∨ k = g ∨ k = gp) w W ∧ ∀ k, B k → ¬ S2 k ∧ w.heap.size ≤ k ∧ k < W.heap.size
theorem LeftB.left (l : LeftB Z w g gd gp n S p j B W) : LeftJ Z w g gd gp n S p j W := by
  obtain ⟨S2, d, hs, o, y, _⟩ := l
  exact ⟨⟨S2, d, hs⟩, o, y⟩
theorem LeftK.leftB {gm : Nat} {s : List UInt8} (l : LeftK Z w g gd gp n S p j gm s W) : LeftB Z w g gd gp n S p j (fun k => k = gm) W := by
  obtain ⟨S2, d, hs, o, y, h1, h2, h3⟩ := l
  refine ⟨S2, d, hs, o, y, fun k hk => ?_⟩
  subst hk
  exact ⟨h1, h3, h2.lt⟩
theorem LeftB.own (hg : g < w.heap.size) (hp : gp < w.heap.size) (l : LeftB Z w g gd gp n S p j B W) (ho : Only (fun k => B k ∨ W.heap.size ≤ k) W W') (hB : ∀ k, B' k → B k ∨ (W.heap.size ≤ k ∧ k < W'.heap.size)) : LeftB Z w g gd gp n S p j B' W' := by
  obtain ⟨S2, d, hs, o, y, h1⟩ := l
  have ys := y.size
  have hos := ho.size
  refine ⟨S2, Z.only d ho (fun k hk hh => hh.elim (fun h => (h1 k h).1 hk) (fun h => by have := Z.lt d k hk; omega)), hs, o.only ho (fun hh => hh.elim (fun h => by have := (h1 g h).2.1; omega) (fun h => by omega)) (fun hh => hh.elim (fun h => by have := (h1 gp h).2.1; omega) (fun h => by omega)), y.trans' ho (fun k hk hh => hh.elim (fun h => by have := (h1 k h).2.1; omega) (fun h => by omega)), fun k hk => ?_⟩
  rcases hB k hk with h | h
  · have := h1 k h
    exact ⟨this.1, this.2.1, by omega⟩
  · exact ⟨fun hh => by have := Z.lt d k hh; omega, by omega, h.2⟩
theorem LeftB.below (hg : g < w.heap.size) (hp : gp < w.heap.size) (l : LeftB Z w g gd gp n S p j B W) (hb : Below W.heap.size W W') : LeftB Z w g gd gp n S p j B W' := l.own hg hp (Only.of_below hb (Nat.le_refl _)) (fun k hk => .inl hk)
theorem LeftB.read (a : Apart w g gp S) (l : LeftB Z w g gd gp n S p j B W) (ok : p.m.Ok n) (i : Int) (hi : -9223372036854775808 ≤ i ∧ i ≤ 9223372036854775807) :
    Calls Tryz.prog 67 #[.pointer (some ⟨g, 0, none⟩), .int .i64 i] W (fun en W' => en = .returned (.agg (cellsB (p.rdS n i)).toArray) ∧ LeftB Z w g gd gp n S (p.rd n i) j B W' ∧ Only (fun k => ¬ B k) W W') := by
  obtain ⟨S2, d2, hs2, o2, y2, h1⟩ := l
  have hgl := a.l1
  have hpl := a.l2
  have ys := y2.size
  have hg2 : ¬ S2 g := fun hh => (hs2 g hh).elim a.s1 (by omega)
  have hp2 : ¬ S2 gp := fun hh => (hs2 gp hh).elim a.s2 (by omega)
  refine (jrd_on (S := S2) (w := W) ⟨hg2, hp2, o2.lt, o2.ltp, a.ne⟩ (LeftJ.same d2 o2) ok i hi).mono ?_
  rintro en W' ⟨rfl, l⟩
  obtain ⟨⟨S3, d3, hs3⟩, o3, y3⟩ := l
  have ys3 := y3.size
  have hnot : ∀ k, B k → ¬ (S2 k ∨ k = g ∨ k = gp) := by
    intro k hk hh
    have := h1 k hk
    rcases hh with q | q | q
    · exact this.1 q
    · omega
    · omega
  refine ⟨rfl, ⟨S3, d3, fun k hk => ?_, o3, y2.trans' y3 (fun k hk hh => ?_), fun k hk => ⟨fun hh => ?_, (h1 k hk).2.1, by have := (h1 k hk).2.2; omega⟩⟩, y3.mono (fun k hk hh hb => hnot k hb hh)⟩
  · rcases hs3 k hk with q | q
    · exact hs2 k q
    · exact .inr (by omega)
  · rcases hh with q | q
    · rcases hs2 k q with q2 | q2
      · exact .inl q2
      · omega
    · exact .inr q
  · rcases hs3 _ hh with q | q
    · exact (h1 k hk).1 q
    · have := (h1 k hk).2.2; omega
theorem LeftB.home (l : LeftB Z w g gd gp n S p j B W) (ok : p.m.Ok n) (i : Int) (hi : -9223372036854775808 ≤ i ∧ i ≤ 9223372036854775807) :
    Calls Tryz.prog 66 #[.pointer (some ⟨g, 0, none⟩), .int .i64 i] W (RetV2 W (.bool (decide (0 ≤ i ∧ i < (j.homes n : Int))))) := by
  obtain ⟨S2, d2, hs2, o2, y2, h1⟩ := l
  exact jishome_any i o2 d2 ok hi

/-- .. since W0, where its own blocks stand as they did. -/
def LeftN (Z : DK) (w : World) (g gd gp n : Nat) (S : Nat → Prop) (p : Pt) (j : JM) (B : Nat → Prop) (W0 W : World) : Prop :=
  LeftB Z w g gd gp n S p j B W ∧ Only (fun k => ¬ B k) W0 W
/-- .. with a fresh sector at b. -/
def LeftM (Z : DK) (w : World) (g gd gp n : Nat) (S : Nat → Prop) (p : Pt) (j : JM) (B : Nat → Prop) (W0 : World) (b : Nat) (s : List UInt8) (W : World) : Prop :=
  LeftB Z w g gd gp n S p j (fun k => B k ∨ k = b) W ∧ Only (fun k => ¬ B k) W0 W ∧ Bw W b 98 s ∧ W0.heap.size ≤ b
variable {b : Nat} {s : List UInt8}
theorem LeftN.o (l : LeftN Z w g gd gp n S p j B W0 W) : JO W g gd gp n p.e j := l.1.left.o
theorem LeftM.o (l : LeftM Z w g gd gp n S p j B W0 b s W) : JO W g gd gp n p.e j := l.1.left.o
theorem LeftN.same (l : LeftB Z w g gd gp n S p j B W) : LeftN Z w g gd gp n S p j B W W := ⟨l, Only.refl _ _⟩
theorem LeftN.drew (l : LeftN Z w g gd gp n S p j B W0 W) : LeftN Z w g gd gp n S p j B W0 W.drew := by
  obtain ⟨⟨S2, d, hs, o, y, h1⟩, h2⟩ := l
  exact ⟨⟨S2, Z.only d ⟨rfl, rfl, rfl, Nat.le_refl _, fun _ _ _ => rfl⟩ (fun (_ : Nat) (_ : S2 _) (h : False) => h), hs, o.drew, y.drew, h1⟩, h2.drew⟩
theorem LeftN.below (hg : g < w.heap.size) (hp : gp < w.heap.size) (l : LeftN Z w g gd gp n S p j B W0 W) (hb : Below W.heap.size W W') : LeftN Z w g gd gp n S p j B W0 W' :=
  ⟨l.1.below hg hp hb, l.2.trans (Only.of_below hb (Nat.le_refl _))⟩
theorem LeftM.below (hg : g < w.heap.size) (hp : gp < w.heap.size) (l : LeftM Z w g gd gp n S p j B W0 b s W) (hb : Below W.heap.size W W') : LeftM Z w g gd gp n S p j B W0 b s W' :=
  ⟨l.1.below hg hp hb, l.2.1.trans (Only.of_below hb (Nat.le_refl _)), l.2.2.1.below hb l.2.2.1.lt, l.2.2.2⟩
theorem LeftN.read (a : Apart w g gp S) (l : LeftN Z w g gd gp n S p j B W0 W) (ok : p.m.Ok n) (i : Int) (hi : -9223372036854775808 ≤ i ∧ i ≤ 9223372036854775807) :
    Calls Tryz.prog 67 #[.pointer (some ⟨g, 0, none⟩), .int .i64 i] W (fun en W' => en = .returned (.agg (cellsB (p.rdS n i)).toArray) ∧ LeftN Z w g gd gp n S (p.rd n i) j B W0 W') := by
  refine (l.1.read a ok i hi).mono ?_
  rintro en W' ⟨h1, h2, h3⟩
  exact ⟨h1, h2, l.2.trans h3⟩
theorem LeftM.read (a : Apart w g gp S) (l : LeftM Z w g gd gp n S p j B W0 b s W) (ok : p.m.Ok n) (i : Int) (hi : -9223372036854775808 ≤ i ∧ i ≤ 9223372036854775807) :
    Calls Tryz.prog 67 #[.pointer (some ⟨g, 0, none⟩), .int .i64 i] W (fun en W' => en = .returned (.agg (cellsB (p.rdS n i)).toArray) ∧ LeftM Z w g gd gp n S (p.rd n i) j B W0 b s W') := by
  refine (l.1.read a ok i hi).mono ?_
  rintro en W' ⟨h1, h2, h3⟩
  exact ⟨h1, h2, l.2.1.trans (h3.mono (fun k _ hk hb => hk (.inl hb))), l.2.2.1.keepO h3 (fun hh => hh (.inr rfl)), l.2.2.2⟩
theorem LeftN.gm (hg : g < w.heap.size) (hp : gp < w.heap.size) (l : LeftN Z w g gd gp n S p j B W0 W) (s : List UInt8) : LeftM Z w g gd gp n S p j B W0 W.heap.size s (W.alloc (.cells (cellsB s).toArray 98)) := by
  have hb : Below W.heap.size W (W.alloc (.cells (cellsB s).toArray 98)) := (Below.refl _ W).alloc (Nat.le_refl _) _
  refine ⟨l.1.own hg hp (Only.of_below hb (Nat.le_refl _)) (fun k hk => hk.imp id fun e => ⟨by omega, by subst e; simp⟩), l.2.trans (Only.of_below hb (Nat.le_refl _)), Bw.new W s _, l.2.size⟩
theorem LeftM.row {w1 : World} {s' : List UInt8} (hB : ∀ k, B k → k < W0.heap.size) (hg : g < w.heap.size) (hp : gp < w.heap.size) (l : LeftM Z w g gd gp n S p j B W0 b s W) (h' : Bw w1 b 98 s') (ho : Only (fun k => k = b) W w1) : LeftM Z w g gd gp n S p j B W0 b s' w1 := by
  obtain ⟨l1, l2, l3, l4⟩ := l
  refine ⟨l1.own hg hp (ho.mono (fun k _ hk => .inl (.inr hk))) (fun k hk => .inl hk), l2.trans (ho.mono (fun k _ hk hb => by have := hB k hb; omega)), h', l4⟩
end
end Go.Proofs.YtadagbkfemcgfaaGreat
