/-
  Own work. Journals on a disk that may be armed: what checkpoints and commits make of them, and what Open finds behind a Power. No walk.
-/
import Derived.Test.YtadagbkfemcgfaaCs
import Derived.Test.YtadagbkfemcgfaaQw
namespace Go.Proofs.Ytadagbkfemcgfaa
open Go.RowKit
set_option linter.unusedVariables false
set_option linter.unusedSimpArgs false

section
variable {p : Pt} {n W V s t0 p0 r T u : Nat} {L : List (List Ch)} {f g : Nat → List UInt8} {Q : Nat → List UInt8 → Prop} {m : RM} {j : JM} {H : Nat → List UInt8}
/-- Only homes and the other anchor turned. -/
theorem LS.low (d : LS n W s t0 p0 r L f) (he : ∀ x, x < 2 + r → x ≠ (s + 1) % 2 → g x = f x) (ho : Oth s (g ((s + 1) % 2))) : LS n W s t0 p0 r L g := by
  have hr1 := d.r1
  have hr3 := d.r3
  refine ⟨hr1, d.r2, hr3, d.s1, d.s2, d.t1, d.t2, d.pr, by rw [he _ (by omega) (by omega)]; exact d.an, ho, d.us, ?_, d.ok, fun x hx => ?_⟩
  · refine d.lg.congr fun i hi => ?_
    have h2 := rp_lt (p := p0) (i := i) hr1 hr3
    exact he _ (by omega) (by omega)
  · rw [he _ (by omega) (by omega)]
    exact d.old x hx
/-- The next anchor stands. -/
theorem LS.next (d : LS n W s t0 p0 r L f) (hW : W < 1073741824) (he : ∀ x, x < 2 + r → x ≠ (s + 1) % 2 → g x = f x) (ha : g ((s + 1) % 2) = anc (s + 1) (t0 + L.length) ((p0 + usedL L) % r) r) : LS n (W + 1) (s + 1) (t0 + L.length) ((p0 + usedL L) % r) r [] g := by
  have hr1 := d.r1
  have hr3 := d.r3
  have s2 := d.s2
  refine ⟨hr1, d.r2, hr3, by omega, by omega, by have := d.t1; omega, by show t0 + L.length + 0 ≤ _; have := d.t2; omega, Nat.mod_lt _ (by omega), ha, ?_, Nat.zero_le _, trivial, fun l hl => absurd hl (by simp), fun x hx => ?_⟩
  · rw [show (s + 1 + 1) % 2 = s % 2 by omega, he _ (by omega) (by omega), d.an]
    exact Oth.anc (by omega)
  · rw [he _ (by omega) (by omega)]
    exact d.old x hx
theorem LS.congr (d : LS n W s t0 p0 r L f) (he : ∀ x, x < n → g x = f x) : LS n W s t0 p0 r L g := by
  have hr3 := d.r3
  exact d.low (fun x hx _ => he x (by omega)) (by rw [he _ (by omega)]; exact d.ot)
/-- While the next anchor is written. -/
def QD (g : Nat → List UInt8) (s x : Nat) (z : List UInt8) (i : Nat) (v : List UInt8) : Prop := (i ≠ x → v = g i) ∧ (i = x → v = z ∨ Oth s v)
theorem wr_qd {s x t q r : Nat} : Wr (QD g s x (anc (s + 1) t q r)) x (anc (s + 1) t q r) := by
  refine ⟨⟨fun h => absurd rfl h, fun _ => .inl rfl⟩, fun v k hv hq => ⟨fun h => absurd rfl h, fun _ => ?_⟩⟩
  by_cases hk : 512 ≤ k
  · exact .inl (tearL_all (anc_len _ _ _ _) hv hk)
  · rcases hq.2 rfl with h | h
    · rw [h]
      exact .inl (tearL_same _ k)
    · exact .inr (h.tear hv (by omega))
theorem cpP_crash (q : AP p n f W) (c : Calm p.m n) (d : LS n W s t0 p0 r L f) (hW : W + n + 2 < 1073741824) (m : RM) (hs : ∀ i ∈ frK (jof m n s t0 p0 r L).fresh (jof m n s t0 p0 r L).fresh.length, ((jof m n s t0 p0 r L).fresh.getD i emp).size = 512) :
    (∃ g, AP (cpP p n (jof m n s t0 p0 r L)) n g (W + n + 1) ∧ Calm (cpP p n (jof m n s t0 p0 r L)).m n ∧ LS n (W + n + 1) (s + 1) (t0 + L.length) ((p0 + usedL L) % r) r [] g ∧ ∀ i, i < n - 2 - r → g (2 + r + i) = homeOf (jof m n s t0 p0 r L) f i) ∨
    (∃ Q, Dead (cpP p n (jof m n s t0 p0 r L)) n Q (W + n + 1) ∧ Fin n Q (fun g => (LS n (W + n + 1) s t0 p0 r L g ∧ ∀ i, i < n - 2 - r → homeOf (jof m n s t0 p0 r L) g i = homeOf (jof m n s t0 p0 r L) f i) ∨ (LS n (W + n + 1) (s + 1) (t0 + L.length) ((p0 + usedL L) % r) r [] g ∧ ∀ i, i < n - 2 - r → g (2 + r + i) = homeOf (jof m n s t0 p0 r L) f i))) := by
  have hr1 := d.r1
  have hr3 := d.r3
  have hpr := d.pr
  obtain ⟨k1, k2, k3⟩ := jof_k m n s t0 p0 r L hpr
  have kl := jof_len m n s t0 p0 r L
  obtain ⟨J, hJ⟩ : ∃ J, jof m n s t0 p0 r L = J := ⟨_, rfl⟩
  rw [hJ] at k1 k2 k3 kl hs ⊢
  have kr : J.k.ring = r := by rw [k1]
  have hmem : ∀ i ∈ frK J.fresh J.fresh.length, i < n - 2 - J.k.ring ∧ (J.fresh.getD i emp).size = 512 := fun i hi => ⟨by rw [kr, ← kl]; exact (frK_mem hi).1, hs i hi⟩
  have hlen := frK_len J.fresh J.fresh.length
  have enext : J.next = ⟨s + 1, t0 + L.length, (p0 + usedL L) % r, r⟩ := by unfold JM.next; rw [k1]
  have hnum : J.next.num % 2 = (s + 1) % 2 := by rw [enext]
  have hanc : J.next.anc = anc (s + 1) (t0 + L.length) ((p0 + usedL L) % r) r := by rw [enext]; rfl
  have ecp : cpP p n J = (((cpK p n J (frK J.fresh J.fresh.length)).fl n).wr n (((s + 1) % 2 : Nat) : Int) (anc (s + 1) (t0 + L.length) ((p0 + usedL L) % r) r)).fl n := by
    show ((cpK p n J (frK J.fresh J.fresh.length)).fl n).anchor n J.next = _
    unfold Pt.anchor
    rw [hnum, hanc]
  have hnotf : ∀ i, i < n - 2 - r → i ∉ frK J.fresh J.fresh.length → ¬ (J.fresh.getD i emp).size ≠ 0 := fun i hi hn h => hn (frK_in (by rw [kl]; exact hi) h)
  have hm : May p.m n (fun i v => (∀ x ∈ frK J.fresh J.fresh.length, i ≠ 2 + r + x) → v = f i) := (q.exact_ c).alive q.wy (fun i v _ hv _ => hv)
  have homeC : ∀ g : Nat → List UInt8, (∀ x, x < n → (∀ y ∈ frK J.fresh J.fresh.length, x ≠ 2 + r + y) → g x = f x) → ∀ i, i < n - 2 - r → homeOf J g i = homeOf J f i := fun g hg i hi => by
    unfold homeOf
    by_cases hz : (J.fresh.getD i emp).size ≠ 0
    · rw [if_pos hz, if_pos hz]
    · rw [if_neg hz, if_neg hz, kr]
      exact hg _ (by omega) (fun y hy hh => hz (by have : i = y := by omega
                                                   rw [this]; exact (frK_mem hy).2))
  have finC : Fin n (fun i v => (∀ x ∈ frK J.fresh J.fresh.length, i ≠ 2 + r + x) → v = f i) (fun g => (LS n (W + n + 1) s t0 p0 r L g ∧ ∀ i, i < n - 2 - r → homeOf J g i = homeOf J f i) ∨ (LS n (W + n + 1) (s + 1) (t0 + L.length) ((p0 + usedL L) % r) r [] g ∧ ∀ i, i < n - 2 - r → g (2 + r + i) = homeOf J f i)) := fun g hg => by
    have hlo : ∀ x, x < 2 + r → g x = f x := fun x hx => (hg x (by omega)).1 (fun y _ => by omega)
    exact .inl ⟨(d.low (fun x hx _ => hlo x hx) (by rw [hlo _ (by omega)]; exact d.ot)).more (by omega), homeC g (fun x hx hy => (hg x hx).1 hy)⟩
  rw [ecp]
  rcases cpK_arm J (by rw [kr]; exact hr3) (frK J.fresh J.fresh.length) p f W q hm (by omega) hmem (fun i hi => by
      rw [kr]
      exact ⟨fun h => absurd rfl (h i hi), fun v k _ _ h => absurd rfl (h i hi)⟩) with ⟨g, h1, h1m, h2, h3⟩ | h1
  · rw [kr] at h2 h3
    have hlo : ∀ x, x < 2 + r → g x = f x := fun x hx => h3 x (fun i _ hh => by omega)
    have hg0 : ∀ i, i < n - 2 - r → g (2 + r + i) = homeOf J f i := fun i hi => by
      unfold homeOf
      by_cases hz : (J.fresh.getD i emp).size ≠ 0
      · rw [if_pos hz]
        exact h2 i (frK_in (by rw [kl]; exact hi) hz)
      · rw [if_neg hz, kr]
        refine h3 _ (fun y hy hh => hz ?_)
        have : i = y := by omega
        subst this
        exact (frK_mem hy).2
    rcases h1.flush h1m with ⟨h5, h6⟩ | h5
    · have hmD : May ((cpK p n J (frK J.fresh J.fresh.length)).fl n).m n (QD g s ((s + 1) % 2) (anc (s + 1) (t0 + L.length) ((p0 + usedL L) % r) r)) := (h5.exact_ h6).alive h5.wy (fun i v hi hv => ⟨fun _ => hv, fun hi2 => .inr (by rw [hv, hi2, hlo _ (by omega)]; exact d.ot)⟩)
      have finD : Fin n (QD g s ((s + 1) % 2) (anc (s + 1) (t0 + L.length) ((p0 + usedL L) % r) r)) (fun g => (LS n (W + n + 1) s t0 p0 r L g ∧ ∀ i, i < n - 2 - r → homeOf J g i = homeOf J f i) ∨ (LS n (W + n + 1) (s + 1) (t0 + L.length) ((p0 + usedL L) % r) r [] g ∧ ∀ i, i < n - 2 - r → g (2 + r + i) = homeOf J f i)) := fun g' hg => by
        have hne : ∀ x, x < n → x ≠ (s + 1) % 2 → g' x = g x := fun x hx h => (hg x hx).1.1 h
        have hl2 : ∀ x, x < 2 + r → x ≠ (s + 1) % 2 → g' x = f x := fun x hx h => (hne x (by omega) h).trans (hlo x hx)
        rcases (hg ((s + 1) % 2) (by omega)).1.2 rfl with hz | hz
        · exact .inr ⟨(d.next (by omega) hl2 hz).more (by omega), fun i hi => (hne _ (by omega) (by omega)).trans (hg0 i hi)⟩
        · refine .inl ⟨(d.low hl2 hz).more (by omega), fun i hi => ?_⟩
          unfold homeOf
          by_cases hzz : (J.fresh.getD i emp).size ≠ 0
          · rw [if_pos hzz, if_pos hzz]
          · rw [if_neg hzz, if_neg hzz, kr, hne _ (by omega) (by omega), hg0 i hi]
            unfold homeOf
            rw [if_neg hzz, kr]
      rcases h5.write (by omega) (i := (s + 1) % 2) (by omega) (anc_len _ _ _ _) hmD wr_qd with ⟨h7, h8⟩ | h7
      · rcases h7.flush h8 with ⟨h9, h10⟩ | h9
        · refine .inl ⟨_, h9.more (by omega), h10, (d.next (by omega) (fun x hx h => by rw [upd_ne h]; exact hlo x hx) (upd_same _ _ _)).more (by omega), fun i hi => ?_⟩
          rw [upd_ne (by omega)]
          exact hg0 i hi
        · exact .inr ⟨_, h9.more (by omega), finD⟩
      · refine .inr ⟨_, ?_, finD⟩
        rw [h7.flush]
        exact h7.more (by omega)
    · refine .inr ⟨_, ?_, finC⟩
      rw [h5.write, h5.flush]
      exact h5.more (by omega)
  · refine .inr ⟨_, ?_, finC⟩
    rw [h1.flush, h1.write, h1.flush]
    exact h1.more (by omega)
/-! ### What Open finds -/
theorem hom_m (m m' : RM) (n s t0 p0 r : Nat) (L : List (List Ch)) (f : Nat → List UInt8) (i : Nat) : homeOf (jof m n s t0 p0 r L) f i = homeOf (jof m' n s t0 p0 r L) f i := by
  have e : ∀ (L : List (List Ch)) (j j' : JM), j.fresh = j'.fresh → j.k = j'.k → (takes j L).fresh = (takes j' L).fresh ∧ (takes j L).k = (takes j' L).k := by
    intro L
    induction L with
    | nil => intro j j' h1 h2; exact ⟨h1, h2⟩
    | cons l L ih =>
      intro j j' h1 h2
      refine ih (j.take l) (j'.take l) ?_ ?_
      · show takeF j.fresh l = takeF j'.fresh l
        rw [h1]
      · unfold JM.take
        simp only [h2]
  obtain ⟨e1, e2⟩ := e L (jop ⟨s, t0, p0, r⟩ m n) (jop ⟨s, t0, p0, r⟩ m' n) rfl rfl
  show homeOf (takes _ L) f i = homeOf (takes _ L) f i
  unfold homeOf
  rw [e1, e2]
/-- A disk that shows g has a journal at turn T with the homes H. -/
def Rec (n V r T : Nat) (H : Nat → List UInt8) (g : Nat → List UInt8) : Prop :=
  ∃ s t0 p0 L, LS n V s t0 p0 r L g ∧ T = t0 + L.length ∧ ∀ i, i < n - 2 - r → homeOf (jof (newM n) n s t0 p0 r L) g i = H i
theorem Rec.congr (a : Rec n V r T H f) (he : ∀ x, x < n → g x = f x) : Rec n V r T H g := by
  obtain ⟨s, t0, p0, L, d, hT, hH⟩ := a
  have hr3 := d.r3
  have k1 := (jof_k (newM n) n s t0 p0 r L d.pr).1
  refine ⟨s, t0, p0, L, d.congr he, hT, fun i hi => ?_⟩
  rw [← hH i hi]
  unfold homeOf
  rw [k1]
  split
  · rfl
  · exact he _ (by show 2 + r + i < n; omega)
theorem Rec.more {V' : Nat} (a : Rec n V r T H f) (h : V ≤ V') : Rec n V' r T H f := by
  obtain ⟨s, t0, p0, L, d, hT, hH⟩ := a
  exact ⟨s, t0, p0, L, d.more h, hT, hH⟩
theorem Rec.homes {H' : Nat → List UInt8} (a : Rec n V r T H f) (h : ∀ i, i < n - 2 - r → H i = H' i) : Rec n V r T H' f := by
  obtain ⟨s, t0, p0, L, d, hT, hH⟩ := a
  exact ⟨s, t0, p0, L, d, hT, fun i hi => (hH i hi).trans (h i hi)⟩
theorem Rec.ds (a : Rec n V r T H f) (q : QP ⟨m, 0⟩ n f V) (c : Calm m n) : DS ⟨m, 0⟩ n V T r H := by
  obtain ⟨s, t0, p0, L, d, hT, hH⟩ := a
  exact ⟨jof m n s t0 p0 r L, usedL L, s, t0, p0, L, f, d.dj q c, rfl, hT, rfl, fun i hi => by rw [hom_m m (newM n)]; exact hH i hi⟩
/-! ### Journals that are up, the disk armed or not -/
def SA (p : Pt) (n W : Nat) (j : JM) (T u r : Nat) (H : Nat → List UInt8) : Prop :=
  ∃ s t0 p0 L f, AP p n f W ∧ Calm p.m n ∧ LS n W s t0 p0 r L f ∧ j = jof p.m n s t0 p0 r L ∧ T = t0 + L.length ∧ u = usedL L ∧ ∀ i, i < n - 2 - r → homeOf j f i = H i
theorem SJ.sa (a : SJ p n W j T u r H) : SA p n W j T u r H := by
  obtain ⟨s, t0, p0, L, f, d, x1, x2, x3, x4⟩ := a
  exact ⟨s, t0, p0, L, f, d.q.ap, d.calm, d.ls, x1, x2, x3, x4⟩
theorem SA.arm (a : SA p n W j T u r H) (x y : Int) (hx : x ≤ 9223372036854775807) : SA ⟨p.m.armM x y, p.e⟩ n W j T u r H := by
  obtain ⟨s, t0, p0, L, f, q, c, d, rfl, x2, x3, x4⟩ := a
  exact ⟨s, t0, p0, L, f, ⟨q.e, q.ok.arm x y hx, q.on, q.wy, q.at_, q.wr⟩, c, d, rfl, x2, x3, x4⟩
theorem SA.rec_ (a : SA p n W j T u r H) : ∃ f, AP p n f W ∧ Calm p.m n ∧ Rec n W r T H f := by
  obtain ⟨s, t0, p0, L, f, q, c, d, rfl, x2, x3, x4⟩ := a
  exact ⟨f, q, c, s, t0, p0, L, d, x2, fun i hi => by rw [hom_m _ p.m]; exact x4 i hi⟩
theorem SA.facts (a : SA p n W j T u r H) (hW : W ≤ 1073000000) : j.homes n = n - 2 - r ∧ j.k.ring = r ∧ j.k.turn = T ∧ j.used = u ∧ 8 ≤ r ∧ r + 10 ≤ n ∧ u ≤ r ∧ 1 ≤ T ∧ T ≤ W ∧ j.lives = p.m.powers ∧ p.e = 0 ∧ p.m.Ok n ∧ p.m.wrote ≤ W ∧ p.m.off = false ∧ chkE p j = 0 := by
  obtain ⟨s, t0, p0, L, f, q, c, d, rfl, rfl, rfl, hH⟩ := a
  obtain ⟨k1, k2, k3⟩ := jof_k p.m n s t0 p0 r L d.pr
  refine ⟨by show n - 2 - _ = _; rw [k1], by rw [k1], by rw [k1], k3, d.r1, d.r3, d.us, by have := d.t1; omega, d.t2, k2, q.e, q.ok, q.wr, q.on, ?_⟩
  unfold chkE
  rw [if_neg]
  rintro (h | h)
  · exact h q.e
  · exact h k2.symm
theorem LS.jok (d : LS n W s t0 p0 r L f) (hW : W ≤ 1073000000) (m : RM) (hp : m.powers ≤ 1073741824) : (jof m n s t0 p0 r L).Ok n := by
  obtain ⟨h1, h2, h3⟩ := jof_k m n s t0 p0 r L d.pr
  have s2 := d.s2
  have t2 := d.t2
  have us := d.us
  have r2 := d.r2
  refine ⟨?_, ?_, ?_, ?_, ?_, ?_, ?_, ?_, ?_, ?_⟩
  · rw [h1]; show s < _; omega
  · rw [h1]; show t0 + L.length < _; omega
  · rw [h1]; exact d.r1
  · rw [h1]; exact d.r2
  · rw [h1]; exact d.r3
  · rw [h1]; exact Nat.mod_lt _ (by have := d.r1; omega)
  · rw [h2]; exact hp
  · rw [h3]; omega
  · rw [jof_len]; show _ = n - 2 - _; rw [h1]
  · refine takes_sz L _ (fun l hl c hc => ((d.ok l hl).1.hm c hc).2) (fun x hx => .inl ?_)
    have := List.eq_of_mem_replicate hx
    rw [this]; rfl
theorem LS.empty_of (d : LS n W s t0 p0 r L f) (hf : frK (jof m n s t0 p0 r L).fresh (jof m n s t0 p0 r L).fresh.length = []) : L = [] := by
  have kl := jof_len m n s t0 p0 r L
  cases L with
  | nil => rfl
  | cons l L =>
    exfalso
    obtain ⟨o1, o2⟩ := d.ok l (by simp)
    cases l with
    | nil => exact o1.ne rfl
    | cons c l =>
      have hfl : (jop ⟨s, t0, p0, r⟩ m n).fresh.length = n - 2 - r := List.length_replicate
      have h1 := takeF_some (jop ⟨s, t0, p0, r⟩ m n).fresh c l (fun x hx => by rw [hfl]; exact o1.hm x hx)
      have h2 := takes_keep L ((jop ⟨s, t0, p0, r⟩ m n).take (c :: l)) c.home (fun x hx y hy => by
        have := (d.ok x (by simp [hx])).1.hm y hy
        refine ⟨?_, this.2⟩
        show y.home < (takeF (jop ⟨s, t0, p0, r⟩ m n).fresh (c :: l)).length
        rw [takeF_len, hfl]
        exact this.1) h1
      have h3 := frK_in (N := (jof m n s t0 p0 r ((c :: l) :: L)).fresh.length) (by rw [kl]; exact (o1.hm c (by simp)).1) h2
      rw [show frK (takes ((jop ⟨s, t0, p0, r⟩ m n).take (c :: l)) L).fresh (jof m n s t0 p0 r ((c :: l) :: L)).fresh.length = [] from hf] at h3
      cases h3
/-- What stands behind a Power of this disk has R. -/
def Went (p : Pt) (n V : Nat) (R : (Nat → List UInt8) → Prop) : Prop := ∃ Q, Dead p n Q V ∧ Fin n Q R
theorem Went.mono {V' : Nat} {R R' : (Nat → List UInt8) → Prop} (a : Went p n V R) (h : V ≤ V') (hR : ∀ g, R g → R' g) : Went p n V' R' := by
  obtain ⟨Q, d, hf⟩ := a
  exact ⟨Q, d.more h, fun g hg => hR g (hf g hg)⟩
theorem SA.check (a : SA p n W j T u r H) (hW : W + n + 2 ≤ 1073000000) :
    (ckE p n j = 0 ∧ SA (ckP p n j) n (W + n + 1) (ckJ p n j) T 0 r H) ∨ (ckE p n j = 8 ∧ Went (ckP p n j) n (W + n + 1) (Rec n (W + n + 1) r T H)) := by
  obtain ⟨s, t0, p0, L, f, q, c, d, rfl, rfl, rfl, hH⟩ := a
  have jk := d.jok (by omega) p.m q.ok.pw
  obtain ⟨k1, k2, k3⟩ := jof_k p.m n s t0 p0 r L d.pr
  have kl := jof_len p.m n s t0 p0 r L
  have hlim : ¬ ((jof p.m n s t0 p0 r L).k.num ≥ 4611686018427387904 ∨ (jof p.m n s t0 p0 r L).k.turn ≥ 4611686018427387904) := by
    rw [k1]
    have := d.s2
    have := d.t2
    show ¬ (s ≥ _ ∨ t0 + L.length ≥ _)
    omega
  by_cases hf : frK (jof p.m n s t0 p0 r L).fresh (jof p.m n s t0 p0 r L).fresh.length = []
  · have e1 : ckE p n (jof p.m n s t0 p0 r L) = 0 := by unfold ckE; rw [if_pos hf]
    have e2 : ckP p n (jof p.m n s t0 p0 r L) = p := by unfold ckP; rw [if_pos hf]
    have e3 : ckJ p n (jof p.m n s t0 p0 r L) = jof p.m n s t0 p0 r L := by unfold ckJ; rw [if_pos hf]
    have hL := d.empty_of hf
    subst hL
    rw [e1, e2, e3]
    exact .inl ⟨rfl, s, t0, p0, [], f, q.more (by omega), c, d.more (by omega), rfl, rfl, rfl, hH⟩
  · have e2 : ckP p n (jof p.m n s t0 p0 r L) = cpP p n (jof p.m n s t0 p0 r L) := by unfold ckP; rw [if_neg hf, if_neg hlim]
    have e1 : ckE p n (jof p.m n s t0 p0 r L) = (cpP p n (jof p.m n s t0 p0 r L)).e := by unfold ckE; rw [if_neg hf, if_neg hlim]
    rcases cpP_crash q c d (by omega) p.m (fun i hi => by
      obtain ⟨i1, i2⟩ := frK_mem hi
      have hm : (jof p.m n s t0 p0 r L).fresh.getD i emp ∈ (jof p.m n s t0 p0 r L).fresh := by
        rw [List.getD_eq_getElem?_getD, List.getElem?_eq_getElem i1]
        exact List.getElem_mem i1
      rcases jk.fs _ hm with h | h
      · exact absurd h i2
      · exact h) with ⟨g, h1, h2, h3, h4⟩ | ⟨Q, h1, h2⟩
    · refine .inl ?_
      have e3 : ckJ p n (jof p.m n s t0 p0 r L) = (jof p.m n s t0 p0 r L).clean := by unfold ckJ; rw [if_neg hf, if_neg hlim, if_pos h1.e]
      rw [e1, e2, e3]
      have ej : (jof p.m n s t0 p0 r L).clean = jof (cpP p n (jof p.m n s t0 p0 r L)).m n (s + 1) (t0 + L.length) ((p0 + usedL L) % r) r [] := by
        unfold JM.clean
        rw [kl, k2]
        show _ = jop ⟨s + 1, t0 + L.length, (p0 + usedL L) % r, r⟩ (cpP p n (jof p.m n s t0 p0 r L)).m n
        unfold jop JM.next
        rw [cpP_powers, k1]
      refine ⟨h1.e, s + 1, t0 + L.length, (p0 + usedL L) % r, [], g, h1, h2, h3, ej, rfl, rfl, fun i hi => ?_⟩
      rw [← hH i hi, ← h4 i hi]
      unfold homeOf
      have e4 : ((jof p.m n s t0 p0 r L).clean.fresh.getD i emp).size = 0 := by
        show ((List.replicate _ emp).getD i emp).size = 0
        rw [List.getD_eq_getElem?_getD, List.getElem?_replicate]
        split <;> rfl
      have e5 : (jof p.m n s t0 p0 r L).clean.k.ring = r := by
        show (jof p.m n s t0 p0 r L).k.ring = r
        rw [k1]
      rw [if_neg (fun h => h e4), e5]
    · refine .inr ?_
      rw [e1, e2]
      refine ⟨h1.e, Q, h1, fun g hg => ?_⟩
      rcases h2 g hg with ⟨a1, a2⟩ | ⟨a1, a2⟩
      · exact ⟨s, t0, p0, L, a1, rfl, fun i hi => by rw [hom_m _ p.m, a2 i hi]; exact hH i hi⟩
      · refine ⟨s + 1, t0 + L.length, (p0 + usedL L) % r, [], a1, rfl, fun i hi => ?_⟩
        rw [← hH i hi, ← a2 i hi]
        unfold homeOf
        have e4 : ((jof (newM n) n (s + 1) (t0 + L.length) ((p0 + usedL L) % r) r []).fresh.getD i emp).size = 0 := by
          show ((List.replicate _ emp).getD i emp).size = 0
          rw [List.getD_eq_getElem?_getD, List.getElem?_replicate]
          split <;> rfl
        rw [if_neg (fun h => h e4)]
        rfl
theorem SA.store (a : SA p n W j T u r H) (hW : W + 50 ≤ 1073000000) {l : List Ch} (ok : ChsOk (n - 2 - r) l) (hl : l.length < r) (hu : u + (l.length + 1) ≤ r) :
    ((stP p n j.k l).e = 0 ∧ SA (stP p n j.k l) n (W + 42) (j.take l) (T + 1) (u + (l.length + 1)) r (putH H l)) ∨
    ((stP p n j.k l).e = 8 ∧ Went (stP p n j.k l) n (W + 42) (fun g => Rec n (W + 42) r T H g ∨ Rec n (W + 42) r (T + 1) (putH H l) g)) := by
  obtain ⟨s, t0, p0, L, f, q, c, d, rfl, rfl, rfl, hH⟩ := a
  obtain ⟨k1, k2, k3⟩ := jof_k p.m n s t0 p0 r L d.pr
  have kl := jof_len p.m n s t0 p0 r L
  rw [k1]
  have ej : ∀ _ : RM, (jof p.m n s t0 p0 r L).take l = jof (stP p n ⟨s, t0 + L.length, (p0 + usedL L) % r, r⟩ l).m n s t0 p0 r (L ++ [l]) := fun _ => by
    unfold jof
    rw [takes_snoc]
    unfold jop
    rw [stP_powers]
  have hhome : ∀ (m : RM) (g : Nat → List UInt8), (∀ i, i < n - 2 - r → g (2 + r + i) = f (2 + r + i)) → ∀ i, i < n - 2 - r → homeOf (jof m n s t0 p0 r (L ++ [l])) g i = putH H l i := fun m g hg i hi => by
    have e1 : jof m n s t0 p0 r (L ++ [l]) = (jof m n s t0 p0 r L).take l := by unfold jof; rw [takes_snoc]
    have km := (jof_k m n s t0 p0 r L d.pr).1
    rw [e1, homeOf_take (fun c hc => by rw [jof_len]; exact ok.hm c hc)]
    refine putH_congr l _ _ (n - 2 - r) (fun i hi => ?_) i hi
    rw [← hH i hi, hom_m p.m m]
    unfold homeOf
    rw [km]
    split
    · rfl
    · exact hg i hi
  have hsame : ∀ (m : RM) (g : Nat → List UInt8), (∀ i, i < n - 2 - r → g (2 + r + i) = f (2 + r + i)) → ∀ i, i < n - 2 - r → homeOf (jof m n s t0 p0 r L) g i = H i := fun m g hg i hi => by
    have km := (jof_k m n s t0 p0 r L d.pr).1
    rw [← hH i hi, hom_m p.m m]
    unfold homeOf
    rw [km]
    split
    · rfl
    · exact hg i hi
  rcases stP_crash q c d (by omega) ok hl hu with ⟨g, h1, h2, h3, h4⟩ | ⟨Q, h1, h2⟩
  · refine .inl ⟨h1.e, s, t0, p0, L ++ [l], g, h1, h2, h3, ej p.m, by rw [List.length_append]; rfl, (usedL_snoc L l).symm, fun i hi => ?_⟩
    rw [ej p.m]
    exact hhome _ g h4 i hi
  · refine .inr ⟨h1.e, Q, h1, fun g hg => ?_⟩
    obtain ⟨h3, h4⟩ := h2 g hg
    rcases h3 with h3 | h3
    · exact .inl ⟨s, t0, p0, L, h3, rfl, hsame _ g h4⟩
    · exact .inr ⟨s, t0, p0, L ++ [l], h3, by rw [List.length_append]; rfl, hhome _ g h4⟩
theorem SA.may (a : SA p n V j T u r H) (hV : V ≤ 1073000000) {l : List Pu} (h1 : ∀ x ∈ l, 0 ≤ x.i ∧ x.i < (n - 2 - r : Nat) ∧ x.data.length = 512) (h2 : (l.map Pu.i).Nodup) (h3 : l.length ≤ 40) (h4 : l.length < r) : lstE n j l = 0 := by
  obtain ⟨b1, b2, _⟩ := a.facts hV
  unfold lstE
  have h : lsE (j.homes n) [] l = 0 := by
    rw [b1]
    exact lsE_back _ l [] (fun x hx => by obtain ⟨x1, x2, x3⟩ := h1 x hx; exact ⟨x1, x2, x3, by simp⟩) h2
  rw [if_neg (by rw [h]; exact fun h => h rfl), if_neg (by rw [b2]; omega)]
theorem SA.commit (a : SA p n W j T u r H) (hW : W + n + 60 ≤ 1073000000) {l : List Pu} (hv : lstE n j l = 0) (hne : l ≠ []) :
    ((cmt p n j l).e = 0 ∧ ∃ u', SA (cmt p n j l).p n (W + n + 43) (cmt p n j l).j (T + 1) u' r (putH H (chs l))) ∨
    ((cmt p n j l).e = 8 ∧ Went (cmt p n j l).p n (W + n + 43) (fun g => Rec n (W + n + 43) r T H g ∨ Rec n (W + n + 43) r (T + 1) (putH H (chs l)) g)) := by
  obtain ⟨b1, b2, b3, b4, b5, b6, b7, b8, b9, b10, b11, b12, b13, b14, b15⟩ := a.facts (by omega)
  have hls : lsE (n - 2 - r) [] l = 0 := by
    rw [← b1]
    unfold lstE at hv
    split at hv
    · rename_i h; exact absurd hv h
    · rename_i h; exact Classical.not_not.1 h
  have h40 : l.length ≤ 40 ∧ l.length < r := by
    unfold lstE at hv
    rw [if_neg (by rw [b1, hls]; exact fun h => h rfl)] at hv
    split at hv
    · cases hv
    · rename_i h; omega
  have ok := chs_ok hls h40.1 hne
  have hcl : (chs l).length = l.length := by unfold chs; rw [List.length_map]
  have ht : ¬ j.k.turn ≥ 4611686018427387903 := by rw [b3]; omega
  have moreA : ∀ {p : Pt} {j : JM} {T u V V' : Nat} {H : Nat → List UInt8}, SA p n V j T u r H → V ≤ V' → SA p n V' j T u r H := by
    intro p j T u V V' H a h
    obtain ⟨s, t0, p0, L, f, q, c, d, x1, x2, x3, x4⟩ := a
    exact ⟨s, t0, p0, L, f, q.more h, c, d.more h, x1, x2, x3, x4⟩
  by_cases hr : l.length + 1 > r - u
  · have e0 : cmt p n j l = if ckE p n j ≠ 0 then ⟨ckE p n j, ckP p n j, ckJ p n j⟩
      else (if (stP (ckP p n j) n (ckJ p n j).k (chs l)).e ≠ 0 then ⟨(stP (ckP p n j) n (ckJ p n j).k (chs l)).e, stP (ckP p n j) n (ckJ p n j).k (chs l), ckJ p n j⟩ else ⟨0, stP (ckP p n j) n (ckJ p n j).k (chs l), (ckJ p n j).take (chs l)⟩) := by
      unfold cmt
      rw [if_neg (by rw [b15]; exact fun h => h rfl), if_neg (by rw [hv]; exact fun h => h rfl), if_neg hne, if_neg ht, if_pos (by rw [b2, b4]; exact hr)]
    rcases a.check (by omega) with ⟨c1, c2⟩ | ⟨c1, c2⟩
    · rw [if_neg (by rw [c1]; exact fun h => h rfl)] at e0
      rcases c2.store (by omega) ok (by omega) (by omega) with ⟨s1, s2⟩ | ⟨s1, s2⟩
      · rw [if_neg (by rw [s1]; exact fun h => h rfl)] at e0
        rw [e0]
        exact .inl ⟨rfl, _, moreA s2 (by omega)⟩
      · rw [if_pos (by rw [s1]; decide)] at e0
        rw [e0]
        refine .inr ⟨s1, s2.mono (by omega) (fun g hg => ?_)⟩
        exact hg.imp (fun h => h.more (by omega)) (fun h => h.more (by omega))
    · rw [if_pos (by rw [c1]; decide)] at e0
      rw [e0]
      exact .inr ⟨c1, c2.mono (by omega) (fun g hg => .inl (hg.more (by omega)))⟩
  · have e0 : cmt p n j l = if (stP p n j.k (chs l)).e ≠ 0 then ⟨(stP p n j.k (chs l)).e, stP p n j.k (chs l), j⟩ else ⟨0, stP p n j.k (chs l), j.take (chs l)⟩ := by
      unfold cmt
      rw [if_neg (by rw [b15]; exact fun h => h rfl), if_neg (by rw [hv]; exact fun h => h rfl), if_neg hne, if_neg ht, if_neg (by rw [b2, b4]; exact hr)]
    rcases a.store (by omega) ok (by omega) (by omega) with ⟨s1, s2⟩ | ⟨s1, s2⟩
    · rw [if_neg (by rw [s1]; exact fun h => h rfl)] at e0
      rw [e0]
      exact .inl ⟨rfl, _, moreA s2 (by omega)⟩
    · rw [if_pos (by rw [s1]; decide)] at e0
      rw [e0]
      refine .inr ⟨s1, s2.mono (by omega) (fun g hg => ?_)⟩
      exact hg.imp (fun h => h.more (by omega)) (fun h => h.more (by omega))
theorem SA.more {V' : Nat} (a : SA p n V j T u r H) (h : V ≤ V') : SA p n V' j T u r H := by
  obtain ⟨s, t0, p0, L, f, q, c, d, x1, x2, x3, x4⟩ := a
  exact ⟨s, t0, p0, L, f, q.more h, c, d.more h, x1, x2, x3, x4⟩
/-! ### Behind a Power -/
/-- Whatever survives, what the disk shows behind a Power has R. -/
def Aft (m : RM) (n V : Nat) (R : (Nat → List UInt8) → Prop) : Prop := m.Ok n ∧ m.wrote ≤ V ∧ ∃ Q, May m n Q ∧ Fin n Q R
theorem Went.aft {R : (Nat → List UInt8) → Prop} (a : Went p n V R) : Aft p.m n V R := by
  obtain ⟨Q, d, hf⟩ := a
  exact ⟨d.ok, d.wr, Q, d.may, hf⟩
theorem AP.aft {R : (Nat → List UInt8) → Prop} (q : AP p n f V) (c : Calm p.m n) (hR : ∀ g, (∀ i, i < n → g i = f i) → R g) : Aft p.m n V R :=
  ⟨q.ok, q.wr, _, q.exact_ c, fun g hg => hR g (fun i hi => (hg i hi).1)⟩
theorem Aft.power {R : (Nat → List UInt8) → Prop} (a : Aft m n V R) (keep : List Bool) (hp : m.powers < 1073741824) : ∃ f, QP ⟨m.powerM n keep, 0⟩ n f V ∧ Calm (m.powerM n keep) n ∧ R f := by
  obtain ⟨ok, hw, Q, hm, hf⟩ := a
  obtain ⟨f, q, c, hQ⟩ := hm.power ok keep hp hw
  exact ⟨f, q, c, hf f (fun i hi => ⟨hQ i hi, q.len hi⟩)⟩
end
end Go.Proofs.Ytadagbkfemcgfaa
