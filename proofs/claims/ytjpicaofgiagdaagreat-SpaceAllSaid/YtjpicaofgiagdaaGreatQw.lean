/-
  Own work. A journal of the call's own, with its disk: the contracts of the program over what it is (SJ).
-/
import Derived.Test.YtjpicaofgiagdaaGreatG3
import Derived.Test.YtjpicaofgiagdaaGreatG7
namespace Go.Proofs.YtjpicaofgiagdaaGreat
open Go.RowKit Go.Maps
set_option linter.unusedVariables false
set_option linter.unusedSimpArgs false

/-- A journal made since w0, with its disk. -/
def UpJ (Z : DK) (w0 W : World) (g gd gp n : Nat) (p : Pt) (j : JM) : Prop :=
  ∃ S, OwD Z w0 W gd S n p.m ∧ JO W g gd gp n p.e j ∧ ¬ S g ∧ ¬ S gp ∧ w0.heap.size ≤ g ∧ w0.heap.size ≤ gp
/-- A disk made since w0. -/
def OnD (Z : DK) (w0 W : World) (gd n : Nat) (m : RM) : Prop := ∃ S, OwD Z w0 W gd S n m
section
variable {Z : DK} {w0 W W' : World} {g gd gp n V T u r : Nat} {p p' : Pt} {j j' : JM} {m : RM} {H : Nat → List UInt8} {S : Nat → Prop}
theorem UpJ.disk (a : UpJ Z w0 W g gd gp n p j) : OnD Z w0 W gd n p.m := by
  obtain ⟨S, d, _⟩ := a
  exact ⟨S, d⟩
theorem UpJ.bel (a : UpJ Z w0 W g gd gp n p j) : Below w0.heap.size w0 W := by
  obtain ⟨S, d, _⟩ := a
  exact d.bel
theorem OnD.bel (a : OnD Z w0 W gd n m) : Below w0.heap.size w0 W := by
  obtain ⟨S, d⟩ := a
  exact d.bel
theorem UpJ.below (a : UpJ Z w0 W g gd gp n p j) (hb : Below W.heap.size W W') : UpJ Z w0 W' g gd gp n p j := by
  obtain ⟨S, d, o, h⟩ := a
  exact ⟨S, d.below hb, o.below hb, h⟩
theorem OnD.below (a : OnD Z w0 W gd n m) (hb : Below W.heap.size W W') : OnD Z w0 W' gd n m := by
  obtain ⟨S, d⟩ := a
  exact ⟨S, d.below hb⟩
theorem UpJ.drew (a : UpJ Z w0 W g gd gp n p j) : UpJ Z w0 W.drew g gd gp n p j := by
  obtain ⟨S, d, o, h⟩ := a
  exact ⟨S, d.drew, o.drew, h⟩
theorem UpJ.step (a : UpJ Z w0 W g gd gp n p j) (hS : ∀ S, OwD Z w0 W gd S n p.m → JO W g gd gp n p.e j → ¬ S g → ¬ S gp → LeftJ Z W g gd gp n S p' j' W') : UpJ Z w0 W' g gd gp n p' j' := by
  obtain ⟨S, d, o, h1, h2, h3, h4⟩ := a
  obtain ⟨⟨S2, d2, hs2⟩, o2, y2⟩ := hS S d o h1 h2
  have hlt := o.lt
  have hltp := o.ltp
  have hz := d.bel.size
  refine ⟨S2, ⟨d2, fun k hk => (hs2 k hk).elim (d.s0 k) (fun h => by omega), d.bel.trans (y2.to_below (fun k hk => ?_) hz)⟩, o2, fun hh => (hs2 g hh).elim h1 (fun h => by omega), fun hh => (hs2 gp hh).elim h2 (fun h => by omega), h3, h4⟩
  rcases hk with h | h | h
  · exact d.s0 k h
  · omega
  · omega
/-! ### New, Format -/
theorem new_up (Z : DK) (w0 : World) (W : World) (hb : Below w0.heap.size w0 W) (n : Nat) (h1 : 32 ≤ n) (h2 : n ≤ 4096) : Calls Tryz.prog 97 #[.int .i64 (n : Int)] W fun e W' => ∃ g, e = .returned (.pointer (some ⟨g, 0, none⟩)) ∧ OnD Z w0 W' g n (newM n) := by
  refine (Z.new_any W n h1 h2).mono ?_
  rintro e W' ⟨g, S, rfl, d, s, b⟩
  exact ⟨g, rfl, S, d, fun k hk => Nat.le_trans hb.size (s k hk), hb.trans (b.mono hb.size)⟩
theorem format_up (a : OnD Z w0 W gd n m) (r : Nat) (ok : m.Ok n) (hw : m.wrote ≤ 1073730000) (h8 : 8 ≤ r) (h1k : r ≤ 1024) (hn : r + 10 ≤ n) :
    Calls Tryz.prog 98 #[.pointer (some ⟨gd, 0, none⟩), .int .i64 (r : Int)] W fun en W' => en = .returned (.int .i64 (fmtP m n r).e) ∧ OnD Z w0 W' gd n (fmtP m n r).m := by
  obtain ⟨S, d⟩ := a
  refine (format_any r d.d ok hw h8 h1k hn).mono ?_
  rintro en W' ⟨he, S', d', hs', ho⟩
  exact ⟨he, S', d', fun k hk => (hs' k hk).elim (d.s0 k) (fun h => Nat.le_trans d.bel.size h), d.bel.trans (ho.to_below d.s0 d.bel.size)⟩
/-! ### Open -/
/-- The disk has a journal, whatever the one in memory. -/
def DS (p : Pt) (n V T r : Nat) (H : Nat → List UInt8) : Prop := ∃ j u, SJ p n V j T u r H
theorem SJ.ds (a : SJ p n V j T u r H) : DS p n V T r H := ⟨j, u, a⟩
theorem usedL_le : ∀ (L : List (List Ch)), L.length ≤ usedL L
  | [] => Nat.le_refl _
  | l :: L => by have := usedL_le L; rw [usedL_cons, List.length_cons]; omega
theorem DS.fmt {f : Nat → List UInt8} (q : QP ⟨m, 0⟩ n f V) (hV : V + n + 2 < 1073741824) (r : Nat) (r1 : 8 ≤ r) (r2 : r ≤ 1024) (r3 : r + 10 ≤ n) : DS (fmtP m n r) n (V + n + 1) 1 r (fun _ => zsec) := by
  obtain ⟨f, d, h⟩ := DJ.format q hV r r1 r2 r3
  refine ⟨_, _, 1, 1, 0, [], f, d, rfl, rfl, rfl, fun i hi => ?_⟩
  rw [← h i hi]
  unfold homeOf
  have e0 : ((jof (fmtP m n r).m n 1 1 0 r []).fresh.getD i emp).size = 0 := by
    show ((List.replicate _ emp).getD i emp).size = 0
    rw [List.getD_eq_getElem?_getD, List.getElem?_replicate]
    split <;> rfl
  rw [if_neg (fun h => h e0)]
  rfl
theorem DS.power (a : DS p n V T r H) (keep : List Bool) (hp : p.m.powers < 1073741824) : DS ⟨p.m.powerM n keep, 0⟩ n V T r H ∧ (p.m.powerM n keep).powers = p.m.powers + 1 := by
  obtain ⟨j, u, s, t0, p0, L, f, d, rfl, rfl, rfl, hH⟩ := a
  obtain ⟨q1, q2, q3⟩ := d.q.power d.calm keep hp
  refine ⟨⟨_, _, s, t0, p0, L, f, ⟨q1, q2, d.r1, d.r2, d.r3, d.s1, d.s2, d.t1, d.t2, d.pr, d.an, d.ot, d.us, d.lg, d.ok, d.old⟩, rfl, rfl, rfl, fun i hi => ?_⟩, q3⟩
  rw [← hH i hi]
  have e : ∀ (m m' : RM) (L : List (List Ch)) (j j' : JM), j.fresh = j'.fresh → j.k = j'.k → (takes j L).fresh = (takes j' L).fresh ∧ (takes j L).k = (takes j' L).k := by
    intro m m' L
    induction L with
    | nil => intro j j' h1 h2; exact ⟨h1, h2⟩
    | cons l L ih =>
      intro j j' h1 h2
      refine ih (j.take l) (j'.take l) ?_ ?_
      · show takeF j.fresh l = takeF j'.fresh l
        rw [h1]
      · unfold JM.take
        simp only [h2]
  obtain ⟨e1, e2⟩ := e p.m p.m L (jop ⟨s, t0, p0, r⟩ (p.m.powerM n keep) n) (jop ⟨s, t0, p0, r⟩ p.m n) rfl rfl
  show homeOf (takes _ L) f i = homeOf (takes _ L) f i
  unfold homeOf
  rw [e1, e2]
theorem open_up (a : OnD Z w0 W gd n p.m) (b : DS p n V T r H) (hV : V + n + 2 ≤ 1073000000) :
    Calls Tryz.prog 38 #[.pointer (some ⟨gd, 0, none⟩)] W fun en W' => ∃ g gp p' j', en = .returned (.tuple #[.pointer (some ⟨g, 0, none⟩), .int .i64 0]) ∧ UpJ Z w0 W' g gd gp n p' j' ∧ SJ p' n (V + n + 1) j' T 0 r H ∧ p'.m.powers = p.m.powers ∧ W.heap.size ≤ g := by
  obtain ⟨S, dw⟩ := a
  obtain ⟨j, u, sj⟩ := b
  obtain ⟨c1, c2⟩ := sj.check hV
  obtain ⟨s, t0, p0, L, f, d, rfl, rfl, rfl, hH⟩ := sj
  obtain ⟨k1, k2, k3⟩ := jof_k p.m n s t0 p0 r L d.pr
  have hpe : p = ⟨p.m, 0⟩ := by obtain ⟨m, e⟩ := p; have := d.q.e; simp only at this; rw [this]
  have hre : ∀ i : Nat, i < 2 → (⟨p.m, 0⟩ : Pt).m.readE n (i : Int) = 0 := fun i hi => d.q.rE (by have := d.q.ok.n1; omega)
  have hE : (nwP ⟨p.m, 0⟩ n 2).e = 0 := by rw [nwP_ok rfl 2 hre]
  have s2 := d.s2
  have t2 := d.t2
  have us := d.us
  have r2 := d.r2
  have hul := usedL_le L
  have hK : nwM ⟨p.m, 0⟩ n 2 = ⟨s, t0, p0, r⟩ := by
    rw [nwM_ok rfl 2 hre]
    exact new_log d.q d.s1 (by omega) d.t1 (by omega) d.pr d.r1 d.r2 d.r3 d.an (fun _ => d.ot.tag (d.q.len (by have := d.q.ok.n1; omega)) d.s1 (by omega))
  have ring : (jop ⟨s, t0, p0, r⟩ p.m n).k = ⟨s, t0, p0, r⟩ := rfl
  have hend : tagOf (f (rp ((p0 + usedL L) % r) r 0)) ≠ 2 * (t0 + L.length) + 1 := by
    have hlt := Nat.mod_lt ((p0 + usedL L) % r + 0) (show 0 < r by have := d.r1; omega)
    unfold rp
    exact (d.old _ hlt).tag (d.q.len (by have := d.r3; omega)) (Nat.le_refl _)
  obtain ⟨hr1, hr2⟩ := rep_log d.q L (jop ⟨s, t0, p0, r⟩ p.m n) 2000 d.r1 d.r3 d.pr (by show t0 + L.length < _; omega) d.ok d.lg hend (by omega)
  have okJ : (jop ⟨s, t0, p0, r⟩ p.m n).Ok n := ⟨by show s < _; omega, by show t0 < _; omega, d.r1, d.r2, d.r3, d.pr, d.q.ok.pw, Nat.zero_le _, List.length_replicate, fun x hx => .inl (by rw [List.eq_of_mem_replicate hx]; rfl)⟩
  have q := open_go (Z := Z) (w := W) (S := S) dw.d d.q.ok 0 hE ⟨s, t0, p0, r⟩ hK rfl (by show s ≠ 0; have := d.s1; omega) d.q.live okJ (by show t0 ≤ _; omega) 2000 (by omega) (by rw [hr1]; exact hr2) (by have := d.q.wr; omega)
  rw [hr1] at q
  refine q.mono ?_
  rintro en W' ⟨_, h2⟩
  have hj : takes (jop ⟨s, t0, p0, r⟩ p.m n) L = jof p.m n s t0 p0 r L := rfl
  rw [hj, ← hpe] at h2
  obtain ⟨g, gp, he, S2, d2, hs2, o2, y2, n1, n2, n3, n4⟩ := h2 c1
  refine ⟨g, gp, _, _, he, ⟨S2, ⟨d2, fun k hk => (hs2 k hk).elim (dw.s0 k) (fun h => Nat.le_trans dw.bel.size h), dw.bel.trans (y2.to_below dw.s0 dw.bel.size)⟩, o2, n1, n2, Nat.le_trans dw.bel.size n3, Nat.le_trans dw.bel.size n4⟩, c2, ?_, n3⟩
  unfold ckP
  split
  · rfl
  · split
    · rfl
    · exact cpP_powers ..
/-! ### A journal that is up -/
theorem commit_up (a : UpJ Z w0 W g gd gp n p j) (b : SJ p n V j T u r H) (hV : V ≤ 1073000000) (A : Option Addr) (nl cl : Nat) (l : List Pu) (hp : HasPu W A nl l) (hn : nl ≤ 1000) (hdl : ∀ x ∈ l, x.data.length ≤ 1073741824) :
    Calls Tryz.prog 94 #[.pointer (some ⟨g, 0, none⟩), .slice A nl cl] W fun en W' => en = .returned (.int .i64 (cmt p n j l).e) ∧ UpJ Z w0 W' g gd gp n (cmt p n j l).p (cmt p n j l).j := by
  obtain ⟨b1, b2, b3, b4, b5, b6, b7, b8, b9, b10, b11, b12⟩ := b.homes
  obtain ⟨_, ok, _, hw, _, _⟩ := b.jok hV
  obtain ⟨S, d, o, h1, h2, h3, h4⟩ := a
  refine (jcommit_any A nl cl l o d.d ⟨h1, h2, o.lt, o.ltp, o.ne⟩ ok (by omega) hp hn hdl (by rw [b2, b4]; exact b9)).mono ?_
  rintro en W' ⟨he, lj⟩
  refine ⟨he, ?_⟩
  obtain ⟨⟨S2, d2, hs2⟩, o2, y2⟩ := lj
  have hlt := o.lt
  have hltp := o.ltp
  have hz := d.bel.size
  refine ⟨S2, ⟨d2, fun k hk => (hs2 k hk).elim (d.s0 k) (fun h => by omega), d.bel.trans (y2.to_below (fun k hk => ?_) hz)⟩, o2, fun hh => (hs2 g hh).elim h1 (fun h => by omega), fun hh => (hs2 gp hh).elim h2 (fun h => by omega), h3, h4⟩
  rcases hk with h | h | h
  · exact d.s0 k h
  · omega
  · omega
theorem check_up (a : UpJ Z w0 W g gd gp n p j) (b : SJ p n V j T u r H) (hV : V + n + 2 ≤ 1073000000) :
    Calls Tryz.prog 115 #[.pointer (some ⟨g, 0, none⟩)] W fun en W' => en = .returned (.int .i64 0) ∧ UpJ Z w0 W' g gd gp n (ckP p n j) (ckJ p n j) := by
  have hck := (b.check hV).1
  obtain ⟨_, ok, _, hw, _, _⟩ := b.jok (by omega)
  have hc := b.chk
  obtain ⟨S, d, o, h1, h2, h3, h4⟩ := a
  refine (jck_any o d.d ⟨h1, h2, o.lt, o.ltp, o.ne⟩ ok (by omega) hc).mono ?_
  rintro en W' ⟨he, lj⟩
  rw [hck] at he
  refine ⟨he, ?_⟩
  obtain ⟨⟨S2, d2, hs2⟩, o2, y2⟩ := lj
  have hlt := o.lt
  have hltp := o.ltp
  have hz := d.bel.size
  refine ⟨S2, ⟨d2, fun k hk => (hs2 k hk).elim (d.s0 k) (fun h => by omega), d.bel.trans (y2.to_below (fun k hk => ?_) hz)⟩, o2, fun hh => (hs2 g hh).elim h1 (fun h => by omega), fun hh => (hs2 gp hh).elim h2 (fun h => by omega), h3, h4⟩
  rcases hk with h | h | h
  · exact d.s0 k h
  · omega
  · omega
theorem read_up (a : UpJ Z w0 W g gd gp n p j) (b : SJ p n V j T u r H) (hV : V ≤ 1073000000) (i : Nat) (hi : i < n - 2 - r) :
    Calls Tryz.prog 158 #[.pointer (some ⟨g, 0, none⟩), .int .i64 (i : Int)] W fun en W' => ∃ A q c, en = .returned (.tuple #[.slice A q c, .int .i64 0]) ∧ OwnX W' W.heap.size (.slice A q c) (H i) ∧ UpJ Z w0 W' g gd gp n p j := by
  obtain ⟨r1, r2, r3⟩ := b.read hV hi
  obtain ⟨_, ok, _, hw, _, _⟩ := b.jok hV
  have hn2 := ok.n2
  obtain ⟨S, d, o, h1, h2, h3, h4⟩ := a
  refine (jread_any (i : Int) o d.d ok (by omega) ⟨h1, h2, o.lt, o.ltp, o.ne⟩).mono ?_
  rintro en W' ⟨A, q, c, he, ho, lj⟩
  rw [r1] at he
  rw [r2] at ho
  rw [r3] at lj
  refine ⟨A, q, c, he, ho, ?_⟩
  obtain ⟨⟨S2, d2, hs2⟩, o2, y2⟩ := lj
  have hlt := o.lt
  have hltp := o.ltp
  have hz := d.bel.size
  refine ⟨S2, ⟨d2, fun k hk => (hs2 k hk).elim (d.s0 k) (fun h => by omega), d.bel.trans (y2.to_below (fun k hk => ?_) hz)⟩, o2, fun hh => (hs2 g hh).elim h1 (fun h => by omega), fun hh => (hs2 gp hh).elim h2 (fun h => by omega), h3, h4⟩
  rcases hk with h | h | h
  · exact d.s0 k h
  · omega
  · omega
theorem homes_up (a : UpJ Z w0 W g gd gp n p j) (b : SJ p n V j T u r H) (hV : V ≤ 1073000000) :
    Calls Tryz.prog 231 #[.pointer (some ⟨g, 0, none⟩)] W (RetV2 W (.int .i64 ((n - 2 - r : Nat) : Int))) := by
  obtain ⟨_, ok, _⟩ := b.jok hV
  obtain ⟨b1, _⟩ := b.homes
  obtain ⟨S, d, o, _⟩ := a
  have := jhomes_any o d.d ok
  rwa [b1] at this
theorem turn_up (a : UpJ Z w0 W g gd gp n p j) (b : SJ p n V j T u r H) :
    Calls Tryz.prog 93 #[.pointer (some ⟨g, 0, none⟩)] W (RetW W (.int .u64 ((T - 1 : Nat) : Int))) := by
  obtain ⟨b1, b2, b3, b4, b5, b6, b7, b8, b9, b10, b11, b12⟩ := b.homes
  obtain ⟨S, d, o, _⟩ := a
  have := jturn_any o (by rw [b3]; exact b10)
  rwa [b3] at this
theorem free_up (a : UpJ Z w0 W g gd gp n p j) (b : SJ p n V j T u r H) :
    Calls Tryz.prog 165 #[.pointer (some ⟨g, 0, none⟩)] W (RetQ W (.int .i64 ((r : Int) - (u : Int)))) := by
  obtain ⟨b1, b2, b3, b4, b5, b6, b7, b8, b9, b10, b11, b12⟩ := b.homes
  obtain ⟨S, d, o, _⟩ := a
  have := jfree_any o
  rwa [b2, b4] at this
theorem power_up (a : OnD Z w0 W gd n p.m) (ok : p.m.Ok n) (hp : p.m.powers < 1073741824) :
    Calls Tryz.prog 36 #[.pointer (some ⟨gd, 0, none⟩), .slice none 0 0] W fun en W' => en = .returned (.tuple #[]) ∧ OnD Z w0 W' gd n (p.m.powerM n []) := by
  obtain ⟨S, d⟩ := a
  refine (Z.power_any none 0 0 [] d.d ok hp ⟨rfl, fun h => absurd h (by omega)⟩ (Nat.le_refl _) (by omega)).mono ?_
  rintro en W' l
  have he := l.1
  obtain ⟨S', d'⟩ := d.step l
  exact ⟨he, S', d'⟩
end
end Go.Proofs.YtjpicaofgiagdaaGreat
