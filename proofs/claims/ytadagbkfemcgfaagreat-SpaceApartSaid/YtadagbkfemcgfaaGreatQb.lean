/-
  Own work. The statements of layer 6: begun.
-/
import Derived.Test.YtadagbkfemcgfaaGreatQw
namespace Go.Proofs.YtadagbkfemcgfaaGreat
open Go.RowKit Go.Maps
set_option linter.unusedVariables false
set_option linter.unusedSimpArgs false

theorem ckP_powers (p : Pt) (n : Nat) (j : JM) : (ckP p n j).m.powers = p.m.powers := by
  unfold ckP
  split
  · rfl
  · split
    · rfl
    · exact cpP_powers ..
theorem cmt_powers (p : Pt) (n : Nat) (j : JM) (l : List Pu) : (cmt p n j l).p.m.powers = p.m.powers := by
  unfold cmt
  repeat' split
  all_goals first | rfl | exact ckP_powers .. | (rw [stP_powers]; exact ckP_powers ..) | exact stP_powers ..
theorem fmtP_powers (m : RM) (n r : Nat) : (fmtP m n r).m.powers = m.powers := by
  have h : ∀ k, (fmtK ⟨m, 0⟩ n k).m.powers = m.powers := by
    intro k
    induction k with
    | zero => rfl
    | succ k ih =>
      rw [fmtK_succ, Pt.wr_powers]
      split
      · rw [Pt.fl_powers, ih]
      · exact ih
  unfold fmtP Pt.anchor
  rw [Pt.fl_powers, Pt.wr_powers, Pt.fl_powers, h]
theorem SJ.may {p : Pt} {n V T u r : Nat} {j : JM} {H : Nat → List UInt8} (a : SJ p n V j T u r H) {l : List Pu} (h1 : ∀ x ∈ l, 0 ≤ x.i ∧ x.i < (n - 2 - r : Nat) ∧ x.data.length = 512) (h2 : (l.map Pu.i).Nodup) (h3 : l.length ≤ 40) (h4 : l.length < r) : lstE n j l = 0 := by
  obtain ⟨b1, b2, _⟩ := a.homes
  have e : lsE (j.homes n) [] l = 0 := by
    rw [b1]
    exact lsE_back _ l [] (fun x hx => ⟨(h1 x hx).1, (h1 x hx).2.1, (h1 x hx).2.2, by simp⟩) h2
  unfold lstE
  rw [e, if_neg (fun h => h rfl), b2, if_neg (by omega)]
/-- Everything that open_up tells. -/
def OpenUp (Z : DK) (w0 : World) (gd n : Nat) (p : Pt) (V T r : Nat) (H : Nat → List UInt8) (en : Ending) (W' : World) : Prop :=
  ∃ g gp p' j', en = .returned (.tuple #[.pointer (some ⟨g, 0, none⟩), .int .i64 0]) ∧ UpJ Z w0 W' g gd gp n p' j' ∧ SJ p' n V j' T 0 r H ∧ p'.m.powers = p.m.powers
theorem HasPu.one {w : World} {A : Option Addr} {n c : Nat} {D : List UInt8} (x : Int) (h : HasB w w.heap.size A n D) (hc : n ≤ c) (hx : -9223372036854775808 ≤ x ∧ x ≤ 9223372036854775807) : HasPu (w.alloc (.cells #[.int .i64 x, .slice A n c] 115)) (some ⟨w.heap.size, 0, none⟩) 1 [⟨x, D⟩] := by
  have hb : Below w.heap.size w (w.alloc (.cells #[.int .i64 x, .slice A n c] 115)) := (Below.refl _ _).alloc (Nat.le_refl _) _
  have h0 := heap_alloc_new w (.cells #[.int .i64 x, .slice A n c] 115)
  refine ⟨rfl, fun y hy => ?_, fun _ => ⟨w.heap.size, 0, rfl, by simp, fun k y hy => ?_⟩⟩
  · rw [List.mem_singleton] at hy
    subst hy
    exact hx
  · cases k with
    | zero =>
      simp only [List.getElem?_cons_zero, Option.some.injEq] at hy
      subst hy
      exact ⟨A, n, c, cell_of_row _ _ 0 _ _ (0, 0) h0, cell_of_row _ _ 1 _ _ (0, 0) h0, h.on hb, hc⟩
    | succ k => simp at hy
end Go.Proofs.YtadagbkfemcgfaaGreat
