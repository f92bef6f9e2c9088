/-
  Own work. A disk and the document's side by side, step by step; how many writes and powers there are.
-/
import Derived.Test.YtpnmcdpekfibjaaSa
import Derived.Test.YtpnmcdpekfibjaaFu
import Derived.Test.YtpnmcdpekfibjaaOp
import Derived.Test.YtpnmcdpekfibjaaPl
namespace Go.Proofs.Ytpnmcdpekfibjaa
open Go.RowKit
set_option linter.unusedVariables false
set_option linter.unusedSimpArgs false

structure Duo (Z : DK) (W : World) (g : Nat) (S : Nat → Prop) (h hl hw n cl cw : Nat) (m1 m2 : RM) : Prop where
  d : Z.D W g S n m1
  r : RefD W h hl hw n cl cw m2
  dis : ∀ k, S k → ¬ RefB h hl hw k
section
variable {Z : DK} {w w' : World} {g h hl hw n cl cw : Nat} {S T : Nat → Prop} {m m1 m2 m3 : RM} {v : Value} {e : Ending}
theorem Pair.duo (p : Pair Z w g S h hl hw n cl cw m) : Duo Z w g S h hl hw n cl cw m m := ⟨p.d, p.r, p.dis⟩
theorem Duo.only (p : Duo Z w g S h hl hw n cl cw m1 m2) (ho : Only T w w') (hT : ∀ k, S k ∨ RefB h hl hw k → ¬ T k) : Duo Z w' g S h hl hw n cl cw m1 m2 :=
  ⟨Z.only p.d ho fun k hk => hT k (.inl hk), p.r.only ho fun k hk => hT k (.inr hk), p.dis⟩
theorem Duo.below (p : Duo Z w g S h hl hw n cl cw m1 m2) (hb : Below w.heap.size w w') : Duo Z w' g S h hl hw n cl cw m1 m2 := p.only (Only.of_below (S := fun _ => False) hb (Nat.le_refl _)) (fun _ _ h => h)
theorem Duo.rlt (p : Duo Z w g S h hl hw n cl cw m1 m2) : ∀ k, RefB h hl hw k → k < w.heap.size := by
  rintro k (rfl | rfl | rfl)
  · exact (Array.getElem?_eq_some_iff.1 p.r.blk).1
  · exact p.r.rl.lt
  · exact p.r.rw.lt
/-- The disk's own step. -/
theorem Duo.stepD (p : Duo Z w g S h hl hw n cl cw m1 m2) (l : Left2 Z.D w g S n v m3 e w') : ∃ S', Duo Z w' g S' h hl hw n cl cw m3 m2 ∧ (∀ k, S' k → S k ∨ w.heap.size ≤ k) := by
  obtain ⟨_, ⟨S', d', hs⟩, ho⟩ := l
  refine ⟨S', ⟨d', p.r.only ho fun k hk hs => p.dis k hs hk, fun k hk hr => ?_⟩, hs⟩
  rcases hs k hk with h1 | h1
  · exact p.dis k h1 hr
  · have := p.rlt k hr; omega
/-- The document's step. -/
theorem Duo.stepR (p : Duo Z w g S h hl hw n cl cw m1 m2) (r : RefD w' h hl hw n cl cw m3) (ho : Only (RefB h hl hw) w w') : Duo Z w' g S h hl hw n cl cw m1 m3 :=
  ⟨Z.only p.d ho p.dis, r, p.dis⟩
end
/-- All blocks of the two. -/
def Both (S : Nat → Prop) (h hl hw : Nat) (k : Nat) : Prop := S k ∨ RefB h hl hw k

theorem RM.goM_cnt (m : RM) : m.goM.wrote = m.wrote ∧ m.goM.powers = m.powers := by unfold RM.goM; split <;> (try split) <;> exact ⟨rfl, rfl⟩
theorem RM.writeM_cnt (m : RM) (n : Nat) (i : Int) (s : ByteArray) : (m.writeM n i s).wrote ≤ m.wrote + 1 ∧ (m.writeM n i s).powers = m.powers := by
  have := m.goM_cnt
  unfold RM.writeM
  split
  · split
    · exact ⟨by show m.goM.wrote + 1 ≤ _; omega, this.2⟩
    · exact ⟨by show m.goM.wrote ≤ _; omega, this.2⟩
  · exact ⟨by omega, rfl⟩
theorem RM.flK_cnt (m : RM) (k : Nat) : (m.flK k).wrote = m.wrote ∧ (m.flK k).powers = m.powers := by
  induction k with
  | zero => exact ⟨rfl, rfl⟩
  | succ k ih =>
    rw [RM.flK_succ]
    unfold RM.flI
    split <;> exact ih
theorem RM.flushM_cnt (m : RM) (n : Nat) : (m.flushM n).wrote = m.wrote ∧ (m.flushM n).powers = m.powers := by
  have h1 := m.goM_cnt
  have h2 := m.goM.flK_cnt n
  unfold RM.flushM
  split
  · exact ⟨rfl, rfl⟩
  · split
    · exact ⟨by omega, by omega⟩
    · exact h1
theorem RM.pwK_cnt (m : RM) (keep : List Bool) (k : Nat) : (m.pwK keep k).1.wrote = m.wrote := by
  induction k with
  | zero => rfl
  | succ k ih =>
    rw [RM.pwK_succ]
    unfold RM.pwI
    split <;> exact ih
theorem RM.powerM_cnt (m : RM) (n : Nat) (keep : List Bool) : (m.powerM n keep).wrote = m.wrote ∧ (m.powerM n keep).powers = m.powers + 1 := by
  have h1 := m.pwK_cnt keep n
  have h2 := (m.pwK_way keep n).2.2
  have h3 : (m.pwK keep n).1.flyM.wrote = (m.pwK keep n).1.wrote ∧ (m.pwK keep n).1.flyM.powers = (m.pwK keep n).1.powers := by unfold RM.flyM; split <;> exact ⟨rfl, rfl⟩
  exact ⟨by show (m.pwK keep n).1.flyM.wrote = _; omega, by show (m.pwK keep n).1.flyM.powers + 1 = _; omega⟩

theorem torn_size (a b : ByteArray) (ha : a.size ≤ 512) (hb : b.size = 512) : (torn a b).size = 512 := by
  unfold torn
  rw [ByteArray.size_append, ByteArray.size_extract]
  omega
theorem RM.Ok.power {m : RM} {n : Nat} (h : m.Ok n) (keep : List Bool) (hp : m.powers < 1073741824) : (m.powerM n keep).Ok n := by
  have h1 : (m.pwK keep n).1.Ok n := RM.Ok.pwK h keep n
  have h2 := m.powerM_cnt n keep
  have h3 : (m.pwK keep n).1.flyM.last.length = n ∧ (∀ s ∈ (m.pwK keep n).1.flyM.last, s.size = 512) := by
    unfold RM.flyM
    split
    · rename_i hw
      refine ⟨by rw [List.length_set]; exact h1.nl, fun s hs => ?_⟩
      rcases List.mem_or_eq_of_mem_set hs with h4 | h4
      · exact h1.ls s h4
      · have hlt : (m.pwK keep n).1.way.toNat < (m.pwK keep n).1.last.length := by have := h1.wy; rw [h1.nl]; omega
        rw [h4]
        refine torn_size _ _ h1.cm (h1.ls _ ?_)
        rw [List.getD_eq_getElem?_getD, List.getElem?_eq_getElem hlt]
        exact List.getElem_mem hlt
    · exact ⟨h1.nl, h1.ls⟩
  have h5 : (m.pwK keep n).1.flyM.wait = (m.pwK keep n).1.wait ∧ (m.pwK keep n).1.flyM.part = (m.pwK keep n).1.part ∧ (m.pwK keep n).1.flyM.coming = (m.pwK keep n).1.coming := by unfold RM.flyM; split <;> exact ⟨rfl, rfl, rfl⟩
  exact ⟨h3.1, by show (m.pwK keep n).1.flyM.wait.length = n; rw [h5.1]; exact h1.nw, h.n1, h.n2, h3.2, by show ∀ s ∈ (m.pwK keep n).1.flyM.wait, _; rw [h5.1]; exact h1.ws, by show 0 ≤ (m.pwK keep n).1.flyM.part ∧ (m.pwK keep n).1.flyM.part ≤ 512; rw [h5.2.1]; exact h1.pt, by show -1 ≤ (-1 : Int) ∧ (-1 : Int) ≤ _; omega, by show -1 ≤ (-1 : Int) ∧ (-1 : Int) < n; have := h.n1; omega, by show (m.pwK keep n).1.flyM.coming.size ≤ 512; rw [h5.2.2]; exact h1.cm, by rw [h2.1]; exact h.wr, by rw [h2.2]; omega⟩

/-- A conversion of a region that draws, at the world that is there. -/
theorem step_convG {P : Program} {w : World} {o : Oper} {ops : Array Oper} {a : Act} {K : Act → World → Prop} {Q : Exit → Act → World → Prop} {E : Prop} (hw : Region.wanted o (yielded ops a.tmps) = true) (t u : TypeId) (x : Operand) (ho : o.op = .convert t u x) (X V : Value) (hx : a.eval x = X)
    (hc : (convert t u X).run P w = .ok V w) (h : K (a.put o.dst V) w) : if Region.wanted o (yielded ops a.tmps) = true then Oper.wp P o a w K Q else E := by
  rw [if_pos hw]
  unfold Oper.wp execOp
  simp only [ho, hx, Sem.run_bind, Sem.run_pure, Result.andThen_ok, hc]
  exact h
theorem load_bytes {W : World} {ad : Addr} {A : Option Addr} {n c : Nat} (h : W.cell? ad = some (.slice A n c)) : (loadVar 29 ad).run Try.prog W = .ok (.slice A n c) W := load_slice h
theorem load_bools {W : World} {ad : Addr} {A : Option Addr} {n c : Nat} (h : W.cell? ad = some (.slice A n c)) : (loadVar 30 ad).run Try.prog W = .ok (.slice A n c) W := by
  simp [loadVar, isAgg, run_underlying Try.underlying30, go_sem, h]
/-- The operation's own copy, at block x. -/
structure BoxAt (W : World) (x : Nat) (o : OpR) : Prop where
  blk : W.heap[x]? = some (.cells o.cells.toArray 32 (0, 0))
section
variable {W W' : World} {x : Nat} {o : OpR} {T : Nat → Prop}
theorem BoxAt.cell (b : BoxAt W x o) (k : Nat) : W.cell? ⟨x, k, none⟩ = o.cells[k]? := by rw [cell_of_row _ _ _ _ _ _ b.blk]; simp
theorem BoxAt.lt (b : BoxAt W x o) : x < W.heap.size := (Array.getElem?_eq_some_iff.1 b.blk).1
theorem BoxAt.only (b : BoxAt W x o) (ho : Only T W W') (hx : ¬ T x) : BoxAt W' x o := ⟨(ho.block x b.lt hx).trans b.blk⟩
theorem BoxAt.below (b : BoxAt W x o) (hb : Below W.heap.size W W') : BoxAt W' x o := b.only (Only.of_below (S := fun _ => False) hb (Nat.le_refl _)) (fun h => h)
theorem BoxAt.drew (b : BoxAt W x o) : BoxAt W.drew x o := ⟨b.blk⟩
theorem BoxAt.i (b : BoxAt W x o) : W.cell? ⟨x, 1, none⟩ = some (.int .i64 o.i) := b.cell 1
theorem BoxAt.part (b : BoxAt W x o) : W.cell? ⟨x, 2, none⟩ = some (.int .i64 o.part) := b.cell 2
theorem BoxAt.bs (b : BoxAt W x o) : W.cell? ⟨x, 3, none⟩ = some (.slice o.A1 o.n1 o.c1) := b.cell 3
theorem BoxAt.ks (b : BoxAt W x o) : W.cell? ⟨x, 4, none⟩ = some (.slice o.A2 o.n2 o.c2) := b.cell 4
end
end Go.Proofs.Ytpnmcdpekfibjaa
