/-
  Own work. A disk of the call's own beside blocks of it; Power and Open that leave these blocks alone; what is known of a journal stays known.
-/
import Derived.Test.YtadagbkfemcgfaaGreatOvs
namespace Go.Proofs.YtadagbkfemcgfaaGreat
open Go.RowKit Go.Maps
set_option linter.unusedVariables false
set_option linter.unusedSimpArgs false

/-- A disk made since w0, beside the blocks B of the call's own. -/
def OnB (Z : DK) (w0 W : World) (gd n : Nat) (m : RM) (B : Nat → Prop) : Prop :=
  ∃ S, OwD Z w0 W gd S n m ∧ ∀ k, B k → ¬ S k ∧ w0.heap.size ≤ k ∧ k < W.heap.size
section
variable {Z : DK} {w0 W W' : World} {g gd gp n V T u r : Nat} {p p' : Pt} {j j' : JM} {m : RM} {H : Nat → List UInt8} {S B B' : Nat → Prop}
theorem OnB.bel (a : OnB Z w0 W gd n m B) : Below w0.heap.size w0 W := by
  obtain ⟨S, d, _⟩ := a
  exact d.bel
theorem OnB.on (a : OnB Z w0 W gd n m B) : OnD Z w0 W gd n m := by
  obtain ⟨S, d, _⟩ := a
  exact ⟨S, d⟩
theorem OnD.b (a : OnD Z w0 W gd n m) : OnB Z w0 W gd n m (fun _ => False) := by
  obtain ⟨S, d⟩ := a
  exact ⟨S, d, fun k hk => hk.elim⟩
theorem OnB.own (a : OnB Z w0 W gd n m B) (ho : Only (fun k => B k ∨ W.heap.size ≤ k) W W') (hB : ∀ k, B' k → B k ∨ (W.heap.size ≤ k ∧ k < W'.heap.size)) : OnB Z w0 W' gd n m B' := by
  obtain ⟨S, d, h⟩ := a
  have hz := d.bel.size
  have hs := ho.size
  refine ⟨S, ⟨Z.only d.d ho (fun k hk hh => hh.elim (fun h' => (h k h').1 hk) (fun h' => by have := d.slt k hk; omega)), d.s0, d.bel.trans (ho.to_below (fun k hk => hk.elim (fun h' => (h k h').2.1) (fun h' => by omega)) hz)⟩, fun k hk => ?_⟩
  rcases hB k hk with h' | h'
  · obtain ⟨q1, q2, q3⟩ := h k h'
    exact ⟨q1, q2, by omega⟩
  · exact ⟨fun hh => by have := d.slt k hh; omega, by omega, h'.2⟩
theorem OnB.below (a : OnB Z w0 W gd n m B) (hb : Below W.heap.size W W') : OnB Z w0 W' gd n m B := a.own (Only.of_below hb (Nat.le_refl _)) (fun k hk => .inl hk)
theorem UpB.disk (a : UpB Z w0 W g gd gp n p j B) : OnB Z w0 W gd n p.m B := by
  obtain ⟨S, d, o, h1, h2, h3, h4, h5⟩ := a
  exact ⟨S, d, fun k hk => ⟨(h5 k hk).1, (h5 k hk).2.2.2.1, (h5 k hk).2.2.2.2⟩⟩
theorem UpB.lt (a : UpB Z w0 W g gd gp n p j B) : ∀ k, B k → w0.heap.size ≤ k ∧ k < W.heap.size := by
  obtain ⟨S, d, o, h1, h2, h3, h4, h5⟩ := a
  exact fun k hk => (h5 k hk).2.2.2
theorem OnB.lt (a : OnB Z w0 W gd n m B) : ∀ k, B k → w0.heap.size ≤ k ∧ k < W.heap.size := by
  obtain ⟨S, d, h⟩ := a
  exact fun k hk => (h k hk).2
/-- An operation of the disk leaves the blocks alone. -/
theorem OnB.step {e : Ending} {v : Value} {m' : RM} (a : OnB Z w0 W gd n m B) (h : ∀ S, Z.D W gd S n m → (∀ k, B k → ¬ S k) → Left2 Z.D W gd S n v m' e W') : e = .returned v ∧ OnB Z w0 W' gd n m' B ∧ Only (fun k => ¬ B k) W W' := by
  obtain ⟨S, d, hb⟩ := a
  obtain ⟨he, ⟨S', d', hs⟩, ho⟩ := h S d.d (fun k hk => (hb k hk).1)
  have hz := d.bel.size
  have hsz := ho.size
  refine ⟨he, ⟨S', ⟨d', fun k hk => (hs k hk).elim (d.s0 k) (fun h' => by omega), d.bel.trans (ho.to_below d.s0 hz)⟩, fun k hk => ?_⟩, ho.mono (fun k _ hk hb' => (hb k hb').1 hk)⟩
  obtain ⟨q1, q2, q3⟩ := hb k hk
  exact ⟨fun hh => (hs k hh).elim q1 (fun h' => by omega), q2, by omega⟩
/-- Open of a disk that has a journal, beside blocks of the call's own. -/
theorem OnB.open_ (a : OnB Z w0 W gd n p.m B) (b : DS p n V T r H) (hV : V + n + 2 ≤ 1073000000) :
    Calls Tryz.prog 36 #[.pointer (some ⟨gd, 0, none⟩)] W fun en W' => ∃ g gp p' j', en = .returned (.tuple #[.pointer (some ⟨g, 0, none⟩), .int .i64 0]) ∧ UpB Z w0 W' g gd gp n p' j' B ∧ SJ p' n (V + n + 1) j' T 0 r H ∧ p'.m.powers = p.m.powers ∧ W.heap.size ≤ g ∧ Only (fun k => ¬ B k) W W' := by
  obtain ⟨S, dw, hB⟩ := a
  obtain ⟨j, u, sj⟩ := b
  obtain ⟨c1, c2⟩ := sj.check hV
  obtain ⟨s, t0, p0, L, f, d, rfl, rfl, rfl, hH⟩ := sj
  obtain ⟨k1, k2, k3⟩ := jof_k p.m n s t0 p0 r L d.pr
  have hpe : p = ⟨p.m, 0⟩ := by obtain ⟨m, e⟩ := p; have := d.q.e; simp only at this; rw [this]
  have hre : ∀ i : Nat, i < 2 → (⟨p.m, 0⟩ : Pt).m.readE n (i : Int) = 0 := fun i hi => d.q.rE (by have := d.q.ok.n1; omega)
  have hE : (nwP ⟨p.m, 0⟩ n 2).e = 0 := by rw [nwP_ok rfl 2 hre]
  have s2 := d.s2
  have t2 := d.t2
  have us := d.us
  have r2 := d.r2
  have hul := usedL_le L
  have hK : nwM ⟨p.m, 0⟩ n 2 = ⟨s, t0, p0, r⟩ := by
    rw [nwM_ok rfl 2 hre]
    exact new_log d.q d.s1 (by omega) d.t1 (by omega) d.pr d.r1 d.r2 d.r3 d.an (fun _ => d.ot.tag (d.q.len (by have := d.q.ok.n1; omega)) d.s1 (by omega))
  have ring : (jop ⟨s, t0, p0, r⟩ p.m n).k = ⟨s, t0, p0, r⟩ := rfl
  have hend : tagOf (f (rp ((p0 + usedL L) % r) r 0)) ≠ 2 * (t0 + L.length) + 1 := by
    have hlt := Nat.mod_lt ((p0 + usedL L) % r + 0) (show 0 < r by have := d.r1; omega)
    unfold rp
    exact (d.old _ hlt).tag (d.q.len (by have := d.r3; omega)) (Nat.le_refl _)
  obtain ⟨hr1, hr2⟩ := rep_log d.q L (jop ⟨s, t0, p0, r⟩ p.m n) 2000 d.r1 d.r3 d.pr (by show t0 + L.length < _; omega) d.ok d.lg hend (by omega)
  have okJ : (jop ⟨s, t0, p0, r⟩ p.m n).Ok n := ⟨by show s < _; omega, by show t0 < _; omega, d.r1, d.r2, d.r3, d.pr, d.q.ok.pw, Nat.zero_le _, List.length_replicate, fun x hx => .inl (by rw [List.eq_of_mem_replicate hx]; rfl)⟩
  have q := open_go (Z := Z) (w := W) (S := S) dw.d d.q.ok 0 hE ⟨s, t0, p0, r⟩ hK rfl (by show s ≠ 0; have := d.s1; omega) d.q.live okJ (by show t0 ≤ _; omega) 2000 (by omega) (by rw [hr1]; exact hr2) (by have := d.q.wr; omega)
  rw [hr1] at q
  refine q.mono ?_
  rintro en W' ⟨_, h2⟩
  have hj : takes (jop ⟨s, t0, p0, r⟩ p.m n) L = jof p.m n s t0 p0 r L := rfl
  rw [hj, ← hpe] at h2
  obtain ⟨g, gp, he, S2, d2, hs2, o2, y2, n1, n2, n3, n4⟩ := h2 c1
  have hz := dw.bel.size
  have hsz := y2.size
  refine ⟨g, gp, _, _, he, ⟨S2, ⟨d2, fun k hk => (hs2 k hk).elim (dw.s0 k) (fun h => Nat.le_trans dw.bel.size h), dw.bel.trans (y2.to_below dw.s0 dw.bel.size)⟩, o2, n1, n2, Nat.le_trans dw.bel.size n3, Nat.le_trans dw.bel.size n4, fun k hk => ?_⟩, c2, ?_, n3, y2.mono (fun k _ hk hb' => (hB k hb').1 hk)⟩
  · obtain ⟨q1, q2, q3⟩ := hB k hk
    exact ⟨fun hh => (hs2 k hh).elim q1 (fun h' => by omega), by omega, by omega, q2, by omega⟩
  · unfold ckP
    split
    · rfl
    · split
      · rfl
      · exact cpP_powers ..
theorem UpB.turn (a : UpB Z w0 W g gd gp n p j B) (b : SJ p n V j T u r H) :
    Calls Tryz.prog 38 #[.pointer (some ⟨g, 0, none⟩)] W (RetW W (.int .u64 ((T - 1 : Nat) : Int))) := turn_up a.up b
theorem SJ.more {V' : Nat} (a : SJ p n V j T u r H) (h : V ≤ V') : SJ p n V' j T u r H := by
  obtain ⟨s, t0, p0, L, f, d, x1, x2, x3, x4⟩ := a
  exact ⟨s, t0, p0, L, f, ⟨d.q.more h, d.calm, d.r1, d.r2, d.r3, d.s1, Nat.le_trans d.s2 h, d.t1, Nat.le_trans d.t2 h, d.pr, d.an, d.ot, d.us, d.lg, d.ok, d.old⟩, x1, x2, x3, x4⟩
theorem SJ.congr {H' : Nat → List UInt8} (a : SJ p n V j T u r H) (h : ∀ i, i < n - 2 - r → H i = H' i) : SJ p n V j T u r H' := by
  obtain ⟨s, t0, p0, L, f, d, x1, x2, x3, x4⟩ := a
  exact ⟨s, t0, p0, L, f, d, x1, x2, x3, fun i hi => (x4 i hi).trans (h i hi)⟩
end
/-- One home's text written over. -/
theorem hsL_set (G : Nat → List UInt8) (h k : Nat) (d : List UInt8) (hk : k < h) : (hsL G h).set k d = hsL (upd G k d) h := by
  apply List.ext_getElem?
  intro i
  unfold hsL
  rw [List.getElem?_set, List.getElem?_map, List.getElem?_map, List.length_map, List.length_range]
  by_cases hi : i < h
  · rw [List.getElem?_range hi]
    by_cases hki : k = i
    · subst hki
      rw [if_pos rfl, if_pos hi]
      simp [upd]
    · rw [if_neg hki]
      simp only [Option.map_some]
      rw [upd_ne (fun e => hki e.symm)]
  · rw [if_neg (by omega)]
    simp [List.getElem?_eq_none (show (List.range h).length ≤ i by simp; omega)]
theorem strs_set (l : List (List UInt8)) (k : Nat) (d : List UInt8) : (strs l).set k (.string (strB d)) = strs (l.set k d) := by
  unfold strs
  rw [List.map_set]
end Go.Proofs.YtadagbkfemcgfaaGreat
