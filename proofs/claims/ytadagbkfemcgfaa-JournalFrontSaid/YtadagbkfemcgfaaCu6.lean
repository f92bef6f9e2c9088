/-
  Own work. Calls on a disk that may be armed: Arm, Dead, a Commit, an Open at which the power may go, a Power behind it.
-/
import Derived.Test.YtadagbkfemcgfaaCt
import Derived.Test.YtadagbkfemcgfaaJca
namespace Go.Proofs.Ytadagbkfemcgfaa
open Go.RowKit Go.Maps
set_option linter.unusedVariables false
set_option linter.unusedSimpArgs false

section
variable {Z : DK} {w0 w W W' : World} {g gd gp n V T u r : Nat} {p : Pt} {j : JM} {m : RM} {H : Nat → List UInt8} {B : Nat → Prop} {R : (Nat → List UInt8) → Prop}
theorem UpB.arm (a : UpB Z w0 W g gd gp n p j B) (ok : p.m.Ok n) (x y : Int) (hx : -9223372036854775808 ≤ x ∧ x ≤ 9223372036854775807) (hy : -9223372036854775808 ≤ y ∧ y ≤ 9223372036854775807) :
    Calls Try.prog 24 #[.pointer (some ⟨gd, 0, none⟩), .int .i64 x, .int .i64 y] W fun en W' => en = .returned (.tuple #[]) ∧ UpB Z w0 W' g gd gp n ⟨p.m.armM x y, p.e⟩ j B ∧ Only (fun k => ¬ B k) W W' := by
  obtain ⟨S, d, o, a1, a2, a3, a4, a5⟩ := a
  refine (Z.arm_any x y d.d ok hx hy).mono ?_
  rintro en W' ⟨he, ⟨S', d', hs⟩, ho⟩
  have hz := d.bel.size
  have hsz := ho.size
  have hlt := o.lt
  have hltp := o.ltp
  refine ⟨he, ⟨S', ⟨d', fun k hk => (hs k hk).elim (d.s0 k) (fun h' => by omega), d.bel.trans (ho.to_below d.s0 hz)⟩, o.only ho a1 a2, fun hh => (hs g hh).elim a1 (fun h => by omega), fun hh => (hs gp hh).elim a2 (fun h => by omega), a3, a4, fun k hk => ?_⟩, ho.mono (fun k _ hk hb' => (a5 k hb').1 hk)⟩
  obtain ⟨q1, q2, q3, q4, q5⟩ := a5 k hk
  exact ⟨fun hh => (hs k hh).elim q1 (fun h' => by omega), q2, q3, q4, by omega⟩
theorem OnB.arm (a : OnB Z w0 W gd n m B) (ok : m.Ok n) (x y : Int) (hx : -9223372036854775808 ≤ x ∧ x ≤ 9223372036854775807) (hy : -9223372036854775808 ≤ y ∧ y ≤ 9223372036854775807) :
    Calls Try.prog 24 #[.pointer (some ⟨gd, 0, none⟩), .int .i64 x, .int .i64 y] W fun en W' => en = .returned (.tuple #[]) ∧ OnB Z w0 W' gd n (m.armM x y) B ∧ Only (fun k => ¬ B k) W W' := by
  obtain ⟨S, d, hb⟩ := a
  refine (Z.arm_any x y d.d ok hx hy).mono ?_
  rintro en W' ⟨he, ⟨S', d', hs⟩, ho⟩
  have hz := d.bel.size
  have hsz := ho.size
  refine ⟨he, ⟨S', ⟨d', fun k hk => (hs k hk).elim (d.s0 k) (fun h' => by omega), d.bel.trans (ho.to_below d.s0 hz)⟩, fun k hk => ?_⟩, ho.mono (fun k _ hk hb' => (hb k hb').1 hk)⟩
  obtain ⟨q1, q2, q3⟩ := hb k hk
  exact ⟨fun hh => (hs k hh).elim q1 (fun h' => by omega), q2, by omega⟩
theorem UpB.dead (a : UpB Z w0 W g gd gp n p j B) (ok : p.m.Ok n) :
    Calls Try.prog 25 #[.pointer (some ⟨gd, 0, none⟩)] W (RetV2 W (.bool p.m.off)) := by
  obtain ⟨S, d, _⟩ := a
  exact Z.dead_any d.d ok
/-- Behind an Arm. -/
theorem QP.arm {f : Nat → List UInt8} (q : QP ⟨m, 0⟩ n f V) (x y : Int) (hx : x ≤ 9223372036854775807) : AP ⟨m.armM x y, 0⟩ n f V := ⟨rfl, q.ok.arm x y hx, q.on, q.wy, q.at_, q.wr⟩
/-- A Power of what went, or did not. -/
theorem OnB.powerA (a : OnB Z w0 W gd n m B) (h : Aft m n V R) (hp : m.powers < 1073741824) (A : Option Addr) (q c : Nat) (keep : List Bool) (hk : ∀ S : Nat → Prop, (∀ k, S k → w0.heap.size ≤ k) → (∀ k, B k → ¬ S k) → HasNo W S A q keep) (h1 : q ≤ c) (h2 : q ≤ 1073741824) :
    Calls Try.prog 29 #[.pointer (some ⟨gd, 0, none⟩), .slice A q c] W fun en W' => en = .returned (.tuple #[]) ∧ (∃ m' f, OnB Z w0 W' gd n m' B ∧ QP ⟨m', 0⟩ n f V ∧ Calm m' n ∧ R f ∧ m'.powers = m.powers + 1) ∧ Only (fun k => ¬ B k) W W' := by
  obtain ⟨f, q1, c1, r1⟩ := h.power keep hp
  refine (a.power h.1 hp A q c keep hk h1 h2).mono ?_
  rintro en W' ⟨he, b, y⟩
  exact ⟨he, ⟨_, f, b, q1, c1, r1, (m.powerM_cnt n keep).2⟩, y⟩
/-! ### Open of a disk that is armed -/
theorem ldK_congr {m m' : RM} (n : Nat) (h : ∀ i, m.readS n i = m'.readS n i) (k : Mk) (hh : Nat) (s : List UInt8) : ∀ q, ldK m n k hh s q = ldK m' n k hh s q
  | 0 => rfl
  | q + 1 => by
    unfold ldK
    rw [ldK_congr n h k hh s q, h]
theorem ldL_congr {m m' : RM} (n : Nat) (h : ∀ i, m.readS n i = m'.readS n i) (k : Mk) (hh : Nat) : ldL m n k hh = ldL m' n k hh := by
  unfold ldL
  simp only [h, ldK_congr n h]
theorem rep_congr {m m' : RM} (n : Nat) (h : ∀ i, m.readS n i = m'.readS n i) : ∀ (F : Nat) (j : JM), rep m n F j = rep m' n F j
  | 0, j => rfl
  | F + 1, j => by
    unfold rep
    rw [ldL_congr n h]
    split
    · rfl
    · exact rep_congr n h F _
theorem newK_congr {m m' : RM} (n : Nat) (h : ∀ i, m.readS n i = m'.readS n i) : ∀ i, newK m n i = newK m' n i
  | 0 => rfl
  | i + 1 => by
    unfold newK
    rw [newK_congr n h i, h]
/-- The power may go while it opens; the disk has its journal behind a Power. -/
theorem OnB.openA (a : OnB Z w0 W gd n m B) {f : Nat → List UInt8} (q : AP ⟨m, 0⟩ n f V) (c : Calm m n) (hr : Rec n V r T H f) (hV : V + n + 2 ≤ 1073000000) :
    Calls Try.prog 22 #[.pointer (some ⟨gd, 0, none⟩)] W fun en W' => (∃ v1 v2, en = .returned (.tuple #[v1, v2])) ∧ (∃ m', OnB Z w0 W' gd n m' B ∧ Aft m' n (V + n + 1) (Rec n (V + n + 1) r T H) ∧ m'.powers = m.powers) ∧ Only (fun k => ¬ B k) W W' := by
  obtain ⟨S, dw, hB⟩ := a
  obtain ⟨s, t0, p0, L, d, hT, hH⟩ := hr
  have n2 := q.ok.n2
  have n1 := q.ok.n1
  have hoff : m.off = false := q.on
  have hway : m.way < 0 := q.wy
  -- the same disk, not armed
  have oku : ({ m with arms := -1 } : RM).Ok n := by
    have ok := q.ok
    exact ⟨ok.nl, ok.nw, ok.n1, ok.n2, ok.ls, ok.ws, ok.pt, ⟨by show (-1 : Int) ≤ -1; decide, by show (-1 : Int) ≤ 9223372036854775807; decide⟩, ok.wy, ok.cm, ok.wr, ok.pw⟩
  have qu : QP ⟨{ m with arms := -1 }, 0⟩ n f V := ⟨rfl, oku, hoff, by show (-1 : Int) < 0; decide, hway, q.at_, q.wr⟩
  have hS : ∀ i, m.readS n i = ({ m with arms := -1 } : RM).readS n i := fun i => rfl
  have hre : ∀ i : Nat, i < 2 → (⟨m, 0⟩ : Pt).m.readE n (i : Int) = 0 := fun i hi => qu.rE (by omega)
  have hE : (nwP ⟨m, 0⟩ n 2).e = 0 := by rw [nwP_ok rfl 2 hre]
  have s2 := d.s2
  have t2 := d.t2
  have us := d.us
  have r2 := d.r2
  have hul := usedL_le L
  have hK : nwM ⟨m, 0⟩ n 2 = ⟨s, t0, p0, r⟩ := by
    rw [nwM_ok rfl 2 hre]
    show newK m n 2 = _
    rw [newK_congr n hS]
    exact new_log qu d.s1 (by omega) d.t1 (by omega) d.pr d.r1 d.r2 d.r3 d.an (fun _ => d.ot.tag (qu.len (by omega)) d.s1 (by omega))
  have hend : tagOf (f (rp ((p0 + usedL L) % r) r 0)) ≠ 2 * (t0 + L.length) + 1 := by
    have hlt := Nat.mod_lt ((p0 + usedL L) % r + 0) (show 0 < r by have := d.r1; omega)
    unfold rp
    exact (d.old _ hlt).tag (qu.len (by have := d.r3; omega)) (Nat.le_refl _)
  obtain ⟨hr1, hr2⟩ := rep_log qu L (jop ⟨s, t0, p0, r⟩ m n) 2000 d.r1 d.r3 d.pr (by show t0 + L.length < _; omega) d.ok d.lg hend (by omega)
  have hr1' : rep m n 2000 (jop ⟨s, t0, p0, r⟩ m n) = takes (jop ⟨s, t0, p0, r⟩ m n) L := (rep_congr n hS 2000 _).trans hr1
  have hr2' : ldL m n (takes (jop ⟨s, t0, p0, r⟩ m n) L).k ((takes (jop ⟨s, t0, p0, r⟩ m n) L).homes n) = [] := (ldL_congr n hS _ _).trans hr2
  have okJ : (jop ⟨s, t0, p0, r⟩ m n).Ok n := ⟨by show s < _; omega, by show t0 < _; omega, d.r1, d.r2, d.r3, d.pr, q.ok.pw, Nat.zero_le _, List.length_replicate, fun x hx => .inl (by rw [List.eq_of_mem_replicate hx]; rfl)⟩
  have qo := open_go (Z := Z) (w := W) (S := S) dw.d q.ok 0 hE ⟨s, t0, p0, r⟩ hK rfl (by show s ≠ 0; have := d.s1; omega) qu.live okJ (by show t0 ≤ _; omega) 2000 (by omega) (by rw [hr1']; exact hr2') (by have := q.wr; show m.wrote ≤ _; have h2 : m.wrote ≤ V := this; omega)
  rw [hr1'] at qo
  have hj : takes (jop ⟨s, t0, p0, r⟩ m n) L = jof m n s t0 p0 r L := rfl
  rw [hj] at qo
  have sa : SA ⟨m, 0⟩ n V (jof m n s t0 p0 r L) T (usedL L) r H := ⟨s, t0, p0, L, f, q, c, d, rfl, hT, rfl, fun i hi => by rw [hom_m m (newM n)]; exact hH i hi⟩
  have hz := dw.bel.size
  have hpw : (ckP ⟨m, 0⟩ n (jof m n s t0 p0 r L)).m.powers = m.powers := by
    unfold ckP
    split
    · rfl
    · split
      · rfl
      · exact cpP_powers ..
  refine qo.mono ?_
  rintro en W' ⟨h1, h2⟩
  rcases sa.check hV with ⟨c1, c2⟩ | ⟨c1, c2⟩
  · obtain ⟨g, gp, he, S2, d2, hs2, o2, y2, _⟩ := h2 c1
    have hsz := y2.size
    obtain ⟨f2, q2, k2, rec2⟩ := c2.rec_
    refine ⟨⟨_, _, he⟩, ⟨_, ⟨S2, ⟨d2, fun k hk => (hs2 k hk).elim (dw.s0 k) (fun h => by omega), dw.bel.trans (y2.to_below dw.s0 hz)⟩, fun k hk => ?_⟩, q2.aft k2 (fun g hg => rec2.congr hg), hpw⟩, y2.mono (fun k _ hk hb' => (hB k hb').1 hk)⟩
    obtain ⟨q1, q2, q3⟩ := hB k hk
    exact ⟨fun hh => (hs2 k hh).elim q1 (fun h' => by omega), q2, by omega⟩
  · obtain ⟨he, S2, d2, hs2, y2⟩ := h1 (by rw [c1]; decide)
    have hsz := y2.size
    refine ⟨⟨_, _, he⟩, ⟨_, ⟨S2, ⟨d2, fun k hk => (hs2 k hk).elim (dw.s0 k) (fun h => by omega), dw.bel.trans (y2.to_below dw.s0 hz)⟩, fun k hk => ?_⟩, c2.aft, hpw⟩, y2.mono (fun k _ hk hb' => (hB k hb').1 hk)⟩
    obtain ⟨q1, q2, q3⟩ := hB k hk
    exact ⟨fun hh => (hs2 k hh).elim q1 (fun h' => by omega), q2, by omega⟩
end
end Go.Proofs.Ytadagbkfemcgfaa
