/-
  Own work. A text stored into a row of texts; a commit beside blocks of the call's own.
-/
import Derived.Test.YtadagbkfemcgfaaGreatHm
namespace Go.Proofs.YtadagbkfemcgfaaGreat
open Go.RowKit Go.Maps
set_option linter.unusedVariables false
set_option linter.unusedSimpArgs false

/-- A value stored into a row of the call's own. -/
theorem OwnV.set {E : TypeId} {w : World} {base n c g k : Nat} {hs : List Value} {u : Value} (h : OwnV E w base (.slice (some ⟨g, 0, none⟩) n c) hs) (hk : k < hs.length) (hu : u.oneCell' = true) : OwnV E (w.setCell ⟨g, k, none⟩ u) base (.slice (some ⟨g, 0, none⟩) n c) (hs.set k u) := by
  rcases h.form with ⟨e, rfl⟩ | ⟨g', c', cur, e, hb, hlt, hg, h1, h2, h3, h4⟩
  · simp at hk
  · simp only [Value.slice.injEq, Option.some.injEq, Addr.mk.injEq, and_true] at e
    obtain ⟨rfl, rfl, rfl⟩ := e
    have hs' := heap_setCell_same w g k cur E u hg
    have hl : cur.toList.length = c := by rw [Array.length_toList]; exact h3
    refine ⟨by rw [Nat.mul_one], .inr ⟨g, c, _, by rw [List.length_set], hb, hs', by rw [List.length_set]; exact h1, h2, by rw [Array.size_setIfInBounds, h3, Nat.mul_one], ?_⟩⟩
    rw [Nat.mul_one, List.length_set, Array.toList_setIfInBounds]
    apply List.ext_getElem?
    intro j
    rw [List.getElem?_take, List.getElem?_set, List.getElem?_set]
    have hj : ∀ j, j < hs.length → cur.toList[j]? = hs[j]? := fun j hj => by rw [← h4, List.getElem?_take, if_pos hj]
    by_cases hjl : j < hs.length
    · rw [if_pos hjl]
      by_cases hkj : k = j
      · rw [if_pos hkj, if_pos hkj, if_pos (by omega), if_pos hk]
      · rw [if_neg hkj, if_neg hkj]
        exact hj j hjl
    · rw [if_neg hjl, if_neg (by omega), List.getElem?_eq_none (by omega)]
theorem UpB.commit {Z : DK} {w0 W : World} {g gd gp n V T u r : Nat} {p : Pt} {j : JM} {H : Nat → List UInt8} {B : Nat → Prop} (a : UpB Z w0 W g gd gp n p j B) (b : SJ p n V j T u r H) (hV : V ≤ 1073000000) (A : Option Addr) (nl cl : Nat) (l : List Pu) (hp : HasPu W A nl l) (hn : nl ≤ 1000) (hdl : ∀ x ∈ l, x.data.length ≤ 1073741824) :
    Calls Tryz.prog 37 #[.pointer (some ⟨g, 0, none⟩), .slice A nl cl] W fun en W' => en = .returned (.int .i64 (cmt p n j l).e) ∧ UpB Z w0 W' g gd gp n (cmt p n j l).p (cmt p n j l).j B ∧ Only (fun k => ¬ B k) W W' := by
  obtain ⟨b1, b2, b3, b4, b5, b6, b7, b8, b9, b10, b11, b12⟩ := b.homes
  obtain ⟨_, ok, _, hw, _, _⟩ := b.jok hV
  obtain ⟨S, d, o, h1, h2, h3, h4, h5⟩ := a
  refine (jcommit_any A nl cl l o d.d ⟨h1, h2, o.lt, o.ltp, o.ne⟩ ok (by omega) hp hn hdl (by rw [b2, b4]; exact b9)).mono ?_
  rintro en W' ⟨he, lj⟩
  obtain ⟨⟨S2, d2, hs2⟩, o2, y2⟩ := lj
  have hlt := o.lt
  have hltp := o.ltp
  have hz := d.bel.size
  have hys := y2.size
  refine ⟨he, ⟨S2, ⟨d2, fun k hk => (hs2 k hk).elim (d.s0 k) (fun h => by omega), d.bel.trans (y2.to_below (fun k hk => ?_) hz)⟩, o2, fun hh => (hs2 g hh).elim h1 (fun h => by omega), fun hh => (hs2 gp hh).elim h2 (fun h => by omega), h3, h4, fun k hk => ?_⟩, y2.mono (fun k _ hk hb => ?_)⟩
  · rcases hk with h | h | h
    · exact d.s0 k h
    · omega
    · omega
  · obtain ⟨q1, q2, q3, q4, q5⟩ := h5 k hk
    exact ⟨fun hh => (hs2 k hh).elim q1 (fun h => by omega), q2, q3, q4, by omega⟩
  · obtain ⟨q1, q2, q3, q4, q5⟩ := h5 k hb
    rcases hk with h | h | h
    · exact q1 h
    · exact q2 h
    · exact q3 h
end Go.Proofs.YtadagbkfemcgfaaGreat
