/-
  Own work. Several journals of one disk: what each of them still answers; calls of one leave the others.
-/
import Derived.Test.YthfmkdeglceppaaOb
namespace Go.Proofs.Ythfmkdeglceppaa
open Go.RowKit Go.Maps
set_option linter.unusedVariables false
set_option linter.unusedSimpArgs false

/-- What a journal in memory still reads. -/
def Stale (p : Pt) (n : Nat) (j : JM) (r : Nat) (H : Nat → List UInt8) : Prop :=
  p.m.Ok n ∧ j.homes n = n - 2 - r ∧ ∀ i : Nat, i < n - 2 - r → jrE p n j (i : Int) = 0 ∧ jrS p n j (i : Int) = H i ∧ jrP p n j (i : Int) = p
section
variable {Z : DK} {w0 W W' : World} {g gd gp n V V' T T' u r : Nat} {p p' : Pt} {j j' : JM} {m : RM} {H : Nat → List UInt8} {B D : Nat → Prop}
theorem SJ.now (a : SJ p n V j T u r H) (hV : V ≤ 1073000000) : Stale p n j r H :=
  ⟨(a.jok hV).2.1, a.homes.1, fun i hi => a.read hV hi⟩
/-- A journal behind which another one was opened. -/
theorem SJ.stale (a : SJ p n V j T u r H) (b : SJ p' n V' j' T' 0 r H) (hp : p'.m.powers = p.m.powers) (hV : V' ≤ 1073000000) : Stale p' n j r H := by
  obtain ⟨b1, b2, b3, b4, b5, b6, b7, b8, b9, b10, b11, b12⟩ := a.homes
  obtain ⟨_, ok, he, _⟩ := b.jok hV
  refine ⟨ok, b1, fun i hi => ?_⟩
  obtain ⟨s, t0, p0, L, f, d, ej, rfl, rfl, hH⟩ := a
  obtain ⟨s', t0', p0', L', f', d', ej', rfl, hu, hH'⟩ := b
  have hL : L' = [] := by
    cases L' with
    | nil => rfl
    | cons l L => rw [usedL_cons] at hu; omega
  subst hL
  have hb : ¬ ((i : Int) < 0 ∨ (j.homes n : Int) ≤ (i : Int)) := by rw [b1]; omega
  have hat : j.k.atHome i < n := by unfold Mk.atHome; rw [b2]; omega
  have hrd := d'.q.rd hat
  have hre := d'.q.rE hat
  have hc : chkE p' j = 0 := by
    unfold chkE
    rw [if_neg]
    rintro (h | h)
    · exact h he
    · exact h (by rw [hp, b12])
  have hf : f' (2 + r + i) = H i := by
    rw [← hH' i hi]
    unfold homeOf
    have e0 : (j'.fresh.getD i emp).size = 0 := by
      rw [ej']
      show ((List.replicate _ emp).getD i emp).size = 0
      rw [List.getD_eq_getElem?_getD, List.getElem?_replicate]
      split <;> rfl
    rw [if_neg (fun h => h e0), ej', (jof_k p'.m n s' t0' p0' r [] d'.pr).1]
  have hE : jrE p' n j (i : Int) = 0 := by
    unfold jrE
    rw [if_neg (by rw [hc]; exact fun h => h rfl), if_neg hb]
    split
    · rfl
    · exact hre
  refine ⟨hE, ?_, ?_⟩
  · unfold jrS
    rw [if_neg (by rw [hE]; exact fun h => h rfl)]
    show (if (j.fresh.getD i emp).size ≠ 0 then lst (j.fresh.getD i emp) else lst (p'.m.readS n (j.k.atHome i : Nat))) = _
    by_cases h0 : (j.fresh.getD i emp).size ≠ 0
    · rw [if_pos h0, ← hH i hi]
      unfold homeOf
      rw [if_pos h0]
    · rw [if_neg h0, hrd]
      unfold Mk.atHome
      rw [b2]
      exact hf
  · unfold jrP
    rw [if_neg (by rw [hc]; exact fun h => h rfl), if_neg hb]
    split
    · rfl
    · exact Pt.rd_ok hre he
theorem OnB.less {B' : Nat → Prop} (a : OnB Z w0 W gd n m B) (h : ∀ k, B' k → B k) : OnB Z w0 W gd n m B' := a.own (Only.refl _ _) (fun k hk => .inl (h k hk))
theorem UpB.disk2 (a : UpB Z w0 W g gd gp n p j B) : OnB Z w0 W gd n p.m (fun k => B k ∨ k = g ∨ k = gp) := by
  obtain ⟨S, d, o, h1, h2, h3, h4, h5⟩ := a
  refine ⟨S, d, fun k hk => ?_⟩
  rcases hk with hk | rfl | rfl
  · exact ⟨(h5 k hk).1, (h5 k hk).2.2.2.1, (h5 k hk).2.2.2.2⟩
  · exact ⟨h1, h3, o.lt⟩
  · exact ⟨h2, h4, o.ltp⟩
theorem OnB.at_ (a : OnB Z w0 W gd n p.m B) (o : JO W g gd gp n p.e j) (hg : B g) (hp : B gp) : UpB Z w0 W g gd gp n p j (fun k => B k ∧ k ≠ g ∧ k ≠ gp) := by
  obtain ⟨S, d, h⟩ := a
  exact ⟨S, d, o, (h g hg).1, (h gp hp).1, (h g hg).2.1, (h gp hp).2.1, fun k hk => ⟨(h k hk.1).1, hk.2.1, hk.2.2, (h k hk.1).2.1, (h k hk.1).2.2⟩⟩
theorem UpB.o (a : UpB Z w0 W g gd gp n p j B) : JO W g gd gp n p.e j := by
  obtain ⟨S, d, o, _⟩ := a
  exact o
theorem UpB.nes (a : UpB Z w0 W g gd gp n p j B) : ∀ k, B k → k ≠ g ∧ k ≠ gp := by
  obtain ⟨S, d, o, h1, h2, h3, h4, h5⟩ := a
  exact fun k hk => ⟨(h5 k hk).2.1, (h5 k hk).2.2.1⟩
theorem UpB.call6 {f : Nat} {args : Array Value} {R : Ending → World → Prop} (a : UpB Z w0 W g gd gp n p j B)
    (h : ∀ S, Z.D W gd S n p.m → JO W g gd gp n p.e j → Apart W g gp S → Calls Try.prog f args W fun en W' => R en W' ∧ LeftJ Z W g gd gp n S p' j' W') :
    Calls Try.prog f args W fun en W' => R en W' ∧ UpB Z w0 W' g gd gp n p' j' B ∧ Only (fun k => ¬ B k) W W' := by
  obtain ⟨S, d, o, h1, h2, h3, h4, h5⟩ := a
  refine (h S d.d o ⟨h1, h2, o.lt, o.ltp, o.ne⟩).mono ?_
  rintro en W' ⟨hr, ⟨S2, d2, hs2⟩, o2, y2⟩
  have hlt := o.lt
  have hltp := o.ltp
  have hz := d.bel.size
  have hys := y2.size
  refine ⟨hr, ⟨S2, ⟨d2, fun k hk => (hs2 k hk).elim (d.s0 k) (fun h => by omega), d.bel.trans (y2.to_below (fun k hk => ?_) hz)⟩, o2, fun hh => (hs2 g hh).elim h1 (fun h => by omega), fun hh => (hs2 gp hh).elim h2 (fun h => by omega), h3, h4, fun k hk => ?_⟩, y2.mono (fun k _ hk hb => ?_)⟩
  · rcases hk with h | h | h
    · exact d.s0 k h
    · omega
    · omega
  · obtain ⟨q1, q2, q3, q4, q5⟩ := h5 k hk
    exact ⟨fun hh => (hs2 k hh).elim q1 (fun h => by omega), q2, q3, q4, by omega⟩
  · obtain ⟨q1, q2, q3, q4, q5⟩ := h5 k hb
    rcases hk with h | h | h
    · exact q1 h
    · exact q2 h
    · exact q3 h
theorem UpB.homes6 (a : UpB Z w0 W g gd gp n p j B) (ok : p.m.Ok n) : Calls Try.prog 38 #[.pointer (some ⟨g, 0, none⟩)] W (RetV2 W (.int .i64 (j.homes n : Nat))) := by
  obtain ⟨S, d, o, _⟩ := a
  exact jhomes_any o d.d ok
theorem UpB.read6 (a : UpB Z w0 W g gd gp n p j B) (ok : p.m.Ok n) (i : Int) (hi : -9223372036854775808 ≤ i ∧ i ≤ 9223372036854775807) :
    Calls Try.prog 28 #[.pointer (some ⟨g, 0, none⟩), .int .i64 i] W fun en W' => (∃ A q c, en = .returned (.tuple #[.slice A q c, .int .i64 (jrE p n j i)]) ∧ OwnX W' W.heap.size (.slice A q c) (jrS p n j i)) ∧ UpB Z w0 W' g gd gp n (jrP p n j i) j B ∧ Only (fun k => ¬ B k) W W' :=
  a.call6 fun S d o ap => (jread_any i o d ok hi ap).mono (by
    rintro en W' ⟨A, q, c, he, ho, lj⟩
    exact ⟨⟨A, q, c, he, ho⟩, lj⟩)
theorem UpB.nil6 (a : UpB Z w0 W g gd gp n p j B) (ok : p.m.Ok n) (hw : p.m.wrote ≤ 1073720000) (hu : j.used ≤ j.k.ring) :
    Calls Try.prog 21 #[.pointer (some ⟨g, 0, none⟩), .slice none 0 0] W fun en W' => en = .returned (.int .i64 (cmt p n j []).e) ∧ UpB Z w0 W' g gd gp n (cmt p n j []).p (cmt p n j []).j B ∧ Only (fun k => ¬ B k) W W' :=
  a.call6 fun S d o ap => jcommit_any none 0 0 [] o d ap ok hw ⟨rfl, fun x hx => absurd hx (by simp), fun h => absurd h (by omega)⟩ (by omega) (by simp) hu
set_option maxRecDepth 100000 in
set_option maxHeartbeats 2000000 in
theorem homes_st (a : UpB Z w0 W g gd gp n p j B) (b : Stale p n j r H) :
    Calls Try.prog 16 #[.pointer (some ⟨g, 0, none⟩)] W fun en W' => ∃ A c, en = .returned (.slice A (n - 2 - r) c) ∧ OwnV 9 W' W.heap.size (.slice A (n - 2 - r) c) (strs (hsL H (n - 2 - r))) ∧ UpB Z w0 W' g gd gp n p j (fun k => B k ∨ (Value.slice A (n - 2 - r) c).ownBlock = some k) ∧ Only (fun k => ¬ B k) W W' := by
  obtain ⟨ok, b1, b2⟩ := b
  have hn2 : n ≤ 4096 := ok.n2
  have CH : Hid (∀ W B, UpB Z w0 W g gd gp n p j B → Calls Try.prog 38 #[.pointer (some ⟨g, 0, none⟩)] W (RetV2 W (.int .i64 ((n - 2 - r : Nat) : Int)))) := Lib.hid (fun W B a => by have := a.homes6 ok; rwa [b1] at this)
  have CR : Hid (∀ W B (i : Nat), UpB Z w0 W g gd gp n p j B → i < n - 2 - r → Calls Try.prog 28 #[.pointer (some ⟨g, 0, none⟩), .int .i64 (i : Int)] W fun en W' => ∃ A q c, en = .returned (.tuple #[.slice A q c, .int .i64 0]) ∧ OwnX W' W.heap.size (.slice A q c) (H i) ∧ UpB Z w0 W' g gd gp n p j B ∧ Only (fun k => ¬ B k) W W') := Lib.hid (fun W B i a hi => by
    obtain ⟨e1, e2, e3⟩ := b2 i hi
    have := a.read6 ok (i : Int) (by omega)
    rw [e1, e2, e3] at this
    refine this.mono ?_
    rintro en W' ⟨⟨A, q, c, h1, h2⟩, h3, h4⟩
    exact ⟨A, q, c, h1, h2, h3, h4⟩)
  have hB : ∀ k, B k → k < W.heap.size := fun k hk => (a.lt k hk).2
  obtain ⟨h, hh⟩ : ∃ h, n - 2 - r = h := ⟨_, rfl⟩
  have hh2 : h ≤ 4096 := by omega
  rw [hh] at CH CR ⊢
  have AA := Lib.hid a
  have HB := Lib.hid hB
  clear a ok b1 b2 hB hh
  go_enter Try.func16, Try.ntmps16
  go_wp2_with fail
  go_loopw [3, 4] (fun v i wr => ∃ (k : Nat) (A' : Option Addr) (c' : Nat), k ≤ h ∧ i = .int .i64 (k : Int) ∧ v = .slice A' k c' ∧ OwnV 9 wr W.heap.size (.slice A' k c') (strs (hsL H k)) ∧ UpB Z w0 wr g gd gp n p j (fun q => B q ∨ (Value.slice A' k c').ownBlock = some q) ∧ Only (fun q => ¬ B q) W wr) (fun _ i _ => h - (Go.RowKit.intOf i).toNat)
  case atStart => exact ⟨0, none, 0, Nat.zero_le _, rfl, rfl, OwnV.nil _ _ _, AA.out.own (Only.refl _ _) (fun q hq => hq.elim (fun h => .inl h) (fun h => by cases h)), Only.refl _ _⟩
  case round =>
    obtain ⟨k, A', c', hk, rfl, rfl, qo, qu, qy⟩ := hrel
    have QO := Lib.hid qo
    have QU := Lib.hid qu
    have QY := Lib.hid qy
    clear qo qu qy
    by_cases hlt : k < h
    · go_wp2_with (first
        | (go_at_call 38; refine (CH.out _ _ QU.out).mono ?_; rintro en w1 ⟨rfl, b1⟩
           have U1 := Lib.hid (QU.out.below b1)
           have O1 := Lib.hid (QO.out.below b1)
           have Y1 := Lib.hid (QY.out.trans (Only.of_below b1 (Nat.le_refl _)))
           clear b1)
        | (go_at_call 28; refine (CR.out _ _ k U1.out hlt).mono ?_; rintro en w2 ⟨A2, n2', c2, rfl, x2, u2', y2⟩
           have U2 := Lib.hid u2'
           have O2 := Lib.hid (O1.out.only y2 (fun q hq hn => hn (.inr hq)))
           have Y2 := Lib.hid (Y1.out.trans (y2.mono (fun q _ hn hb => hn (.inl hb))))
           have hcv : (convert 39 9 (.slice A2 n2' c2)).run Try.prog w2 = .ok (.string (strB (H k))) w2 := run_conv Try.underlying39 Try.underlying5 Try.underlying9 _ _ _ c2 _ x2.has
           have CV := Lib.hid hcv
           have b3 : Below w2.heap.size w2 (w2.alloc (.cells #[.string (strB (H k))] 9)) := (Below.refl _ _).alloc (Nat.le_refl _) _
           have O3 := Lib.hid (O2.out.below b3)
           have U3 := Lib.hid (U2.out.below b3)
           have Y3 := Lib.hid (Y2.out.trans (Only.of_below b3 (Nat.le_refl _)))
           clear x2 u2' y2 hcv b3)
        | (refine wpList_convG (by rfl) 39 9 (.tmp 20) rfl _ _ rfl CV.out ?_)
        | (at_builtin; refine wp_appV rfl (.tmp 19) (.tmp 22) 33 9 _ 16 rfl Try.underlying33 infoStr rfl W.heap.size _ (strs (hsL H k)) [.string (strB (H k))] rfl O3.out _ _ _ rfl rfl (cell_one_new _ _ _) (by simp [Value.oneCell']) (by have := O3.out.len; simp [strs, hsL_len]; omega) Y3.out.size ?_
           intro A4 n4 c4 w4 own4 gr4 b4 ob4
           have OW4 := Lib.hid own4
           have GR4 := Lib.hid (Only.grownO gr4)
           have OB4 := Lib.hid ob4
           clear own4 gr4 b4 ob4))
      have e4 : strs (hsL H k) ++ [.string (strB (H k))] = strs (hsL H (k + 1)) := by rw [hsL_succ]; simp [strs]
      have OX4 := OW4.out
      rw [e4] at OX4
      have hn4 := OX4.len
      have hn4' : k + 1 = n4 := by rw [hn4]; simp [strs, hsL_len]
      subst hn4'
      have OX4' := Lib.hid OX4
      clear OX4 e4 hn4
      go_roundw
      case rel =>
        refine ⟨k + 1, A4, c4, by omega, by go_num, rfl, OX4'.out, U3.out.own (GR4.out.mono (fun q _ hq => .inl (.inr hq))) (fun q hq => ?_), Y3.out.trans (GR4.out.mono (fun q hq hq2 hb => ?_))⟩
        · rcases hq with hq | hq
          · exact .inl (.inl hq)
          · rcases OB4.out with h4 | h4
            · rw [h4] at hq; exact .inl (.inr hq)
            · have h5 := (OX4'.out.lt q hq).2
              rw [h4] at hq
              injection hq with hq
              exact .inr ⟨by omega, h5⟩
        · have := (O3.out.lt q hq2).1
          have := HB.out q hb
          omega
      case measure => simp [Go.RowKit.intOf]; omega
    · obtain rfl : k = h := by omega
      go_wp2_with (first
        | (go_at_call 38; refine (CH.out _ _ QU.out).mono ?_; rintro en w1 ⟨rfl, b1⟩
           have U1 := Lib.hid (QU.out.below b1)
           have O1 := Lib.hid (QO.out.below b1)
           have Y1 := Lib.hid (QY.out.trans (Only.of_below b1 (Nat.le_refl _)))
           clear b1))
      go_ret
      exact ⟨A', c', rfl, O1.out, U1.out, Y1.out⟩
/-! ### The family -/
/-- Journals of one disk, beside data D of the call's own. -/
def Fam (Z : DK) (w0 W : World) (gd n : Nat) (p : Pt) (js : List (Nat × Nat × JM)) (D : Nat → Prop) : Prop :=
  ∃ B, OnB Z w0 W gd n p.m B ∧ p.e = 0 ∧ (∀ x ∈ js, JO W x.1 gd x.2.1 n 0 x.2.2 ∧ B x.1 ∧ B x.2.1) ∧ (∀ x ∈ js, ∀ y ∈ js, x ≠ y → x.1 ≠ y.1 ∧ x.1 ≠ y.2.1 ∧ x.2.1 ≠ y.1 ∧ x.2.1 ≠ y.2.1) ∧ ∀ k, D k → B k ∧ ∀ x ∈ js, k ≠ x.1 ∧ k ≠ x.2.1
variable {js : List (Nat × Nat × JM)} {x : Nat × Nat × JM}
theorem UpB.fam (a : UpB Z w0 W g gd gp n p j B) (he : p.e = 0) : Fam Z w0 W gd n p [(g, gp, j)] B := by
  refine ⟨_, a.disk2, he, fun x hx => ?_, fun x hx y hy hne => ?_, fun k hk => ⟨.inl hk, fun x hx => ?_⟩⟩
  · rw [List.mem_singleton] at hx
    subst hx
    have := a.o
    rw [he] at this
    exact ⟨this, .inr (.inl rfl), .inr (.inr rfl)⟩
  · rw [List.mem_singleton] at hx hy
    subst hx hy
    exact absurd rfl hne
  · rw [List.mem_singleton] at hx
    subst hx
    exact a.nes k hk
theorem Fam.on (a : Fam Z w0 W gd n p js D) : OnB Z w0 W gd n p.m D := by
  obtain ⟨B, on, e, hj, hne, hd⟩ := a
  exact on.less (fun k hk => (hd k hk).1)
theorem Fam.bel (a : Fam Z w0 W gd n p js D) : Below w0.heap.size w0 W := a.on.bel
theorem Fam.below (a : Fam Z w0 W gd n p js D) (hb : Below W.heap.size W W') : Fam Z w0 W' gd n p js D := by
  obtain ⟨B, on, e, hj, hne, hd⟩ := a
  refine ⟨B, on.below hb, e, fun x hx => ?_, hne, hd⟩
  obtain ⟨o, h1, h2⟩ := hj x hx
  exact ⟨o.below hb, h1, h2⟩
theorem Fam.step {f : Nat} {args : Array Value} {R : Ending → World → Prop} (a : Fam Z w0 W gd n p js D) (hx : x ∈ js) (he : p'.e = 0)
    (h : ∀ B', UpB Z w0 W x.1 gd x.2.1 n p x.2.2 B' → Calls Try.prog f args W fun en W' => R en W' ∧ ∃ B'', (∀ k, B' k → B'' k) ∧ UpB Z w0 W' x.1 gd x.2.1 n p' x.2.2 B'' ∧ Only (fun k => ¬ B' k) W W') :
    Calls Try.prog f args W fun en W' => R en W' ∧ Fam Z w0 W' gd n p' js D ∧ Only (fun k => ¬ D k) W W' := by
  obtain ⟨B, on, e, hj, hne, hd⟩ := a
  obtain ⟨o, b1, b2⟩ := hj x hx
  have u := on.at_ (by rw [e]; exact o) b1 b2
  refine (h _ u).mono ?_
  rintro en W' ⟨hr, B'', hsub, u', y⟩
  refine ⟨hr, ⟨B, u'.disk2.less (fun k hk => ?_), he, fun z hz => ?_, hne, hd⟩, y.mono (fun k _ hk hD => hk ⟨(hd k hD).1, (hd k hD).2 x hx⟩)⟩
  · by_cases h1 : k = x.1
    · exact .inr (.inl h1)
    · by_cases h2 : k = x.2.1
      · exact .inr (.inr h2)
      · exact .inl (hsub k ⟨hk, h1, h2⟩)
  · by_cases hzx : z = x
    · subst hzx
      have := u'.o
      rw [he] at this
      exact ⟨this, b1, b2⟩
    · obtain ⟨oz, z1, z2⟩ := hj z hz
      obtain ⟨n1, n2, n3, n4⟩ := hne z hz x hx hzx
      exact ⟨oz.only y (fun hh => hh ⟨z1, n1, n2⟩) (fun hh => hh ⟨z2, n3, n4⟩), z1, z2⟩
theorem Fam.homes (a : Fam Z w0 W gd n p js D) (hx : x ∈ js) (st : Stale p n x.2.2 r H) :
    Calls Try.prog 16 #[.pointer (some ⟨x.1, 0, none⟩)] W fun en W' => (∃ A c, en = .returned (.slice A (n - 2 - r) c) ∧ OwnV 9 W' W.heap.size (.slice A (n - 2 - r) c) (strs (hsL H (n - 2 - r)))) ∧ Fam Z w0 W' gd n p js D ∧ Only (fun k => ¬ D k) W W' := by
  have he : p.e = 0 := by obtain ⟨B, on, e, _⟩ := a; exact e
  refine a.step hx he (fun B' u => (homes_st u st).mono ?_)
  rintro en W' ⟨A, c, h1, h2, h3, h4⟩
  exact ⟨⟨A, c, h1, h2⟩, _, fun k hk => .inl hk, h3, h4⟩
theorem Fam.turn (a : Fam Z w0 W gd n p js D) (hx : x ∈ js) (ht : 1 ≤ x.2.2.k.turn) :
    Calls Try.prog 26 #[.pointer (some ⟨x.1, 0, none⟩)] W (RetW W (.int .u64 ((x.2.2.k.turn - 1 : Nat) : Int))) := by
  obtain ⟨B, on, e, hj, hne, hd⟩ := a
  exact jturn_any (hj x hx).1 ht
theorem Fam.dead (a : Fam Z w0 W gd n p js D) (hx : x ∈ js) (ok : p.m.Ok n) (hc : chkE p x.2.2 ≠ 0) (i : Int) (hi : -9223372036854775808 ≤ i ∧ i ≤ 9223372036854775807) :
    Calls Try.prog 28 #[.pointer (some ⟨x.1, 0, none⟩), .int .i64 i] W fun en W' => (∃ A q c, en = .returned (.tuple #[.slice A q c, .int .i64 8])) ∧ Fam Z w0 W' gd n p js D ∧ Only (fun k => ¬ D k) W W' := by
  have he : p.e = 0 := by obtain ⟨B, on, e, _⟩ := a; exact e
  have e1 : jrE p n x.2.2 i = 8 := by unfold jrE; rw [if_pos hc]
  have e2 : jrP p n x.2.2 i = p := by unfold jrP; rw [if_pos hc]
  refine a.step hx he (fun B' u => (u.read6 ok i hi).mono ?_)
  rintro en W' ⟨⟨A, q, c, h1, h2⟩, h3, h4⟩
  rw [e1] at h1
  rw [e2] at h3
  exact ⟨⟨A, q, c, h1⟩, _, fun k hk => hk, h3, h4⟩
theorem Fam.nil (a : Fam Z w0 W gd n p js D) (hx : x ∈ js) (ok : p.m.Ok n) (hc : chkE p x.2.2 ≠ 0) (hw : p.m.wrote ≤ 1073720000) (hu : x.2.2.used ≤ x.2.2.k.ring) :
    Calls Try.prog 21 #[.pointer (some ⟨x.1, 0, none⟩), .slice none 0 0] W fun en W' => en = .returned (.int .i64 8) ∧ Fam Z w0 W' gd n p js D ∧ Only (fun k => ¬ D k) W W' := by
  have he : p.e = 0 := by obtain ⟨B, on, e, _⟩ := a; exact e
  have e1 : cmt p n x.2.2 [] = ⟨8, p, x.2.2⟩ := by unfold cmt; rw [if_pos hc]
  refine a.step hx he (fun B' u => (u.nil6 ok hw hu).mono ?_)
  rintro en W' ⟨h1, h3, h4⟩
  rw [e1] at h1 h3
  exact ⟨h1, _, fun k hk => hk, h3, h4⟩
/-- One more journal is opened. -/
theorem Fam.open_ (a : Fam Z w0 W gd n p js D) (b : DS p n V T r H) (hV : V + n + 2 ≤ 1073000000) :
    Calls Try.prog 15 #[.pointer (some ⟨gd, 0, none⟩)] W fun en W' => ∃ g gp p' j', en = .returned (.tuple #[.pointer (some ⟨g, 0, none⟩), .int .i64 0]) ∧ Fam Z w0 W' gd n p' ((g, gp, j') :: js) D ∧ SJ p' n (V + n + 1) j' T 0 r H ∧ p'.m.powers = p.m.powers ∧ Only (fun k => ¬ D k) W W' := by
  obtain ⟨B, on, e, hj, hne, hd⟩ := a
  refine (on.open_ b hV).mono ?_
  rintro en W' ⟨g, gp, p', j', h1, u, s, hp, _, y⟩
  have he : p'.e = 0 := (s.jok (by omega)).2.2.1
  have hn := u.nes
  refine ⟨g, gp, p', j', h1, ⟨_, u.disk2, he, fun x hx => ?_, fun x hx z hz hxz => ?_, fun k hk => ⟨.inl (hd k hk).1, fun x hx => ?_⟩⟩, s, hp, y.mono (fun k _ hk hD => hk (hd k hD).1)⟩
  · rcases List.mem_cons.1 hx with rfl | hx
    · have := u.o
      rw [he] at this
      exact ⟨this, .inr (.inl rfl), .inr (.inr rfl)⟩
    · obtain ⟨o, b1, b2⟩ := hj x hx
      exact ⟨o.only y (fun hh => hh b1) (fun hh => hh b2), .inl b1, .inl b2⟩
  · rcases List.mem_cons.1 hx with rfl | hx
    · rcases List.mem_cons.1 hz with rfl | hz
      · exact absurd rfl hxz
      · obtain ⟨_, b1, b2⟩ := hj z hz
        exact ⟨fun h => (hn _ b1).1 h.symm, fun h => (hn _ b2).1 h.symm, fun h => (hn _ b1).2 h.symm, fun h => (hn _ b2).2 h.symm⟩
    · rcases List.mem_cons.1 hz with rfl | hz
      · obtain ⟨_, b1, b2⟩ := hj x hx
        exact ⟨(hn _ b1).1, (hn _ b1).2, (hn _ b2).1, (hn _ b2).2⟩
      · exact hne x hx z hz hxz
  · rcases List.mem_cons.1 hx with rfl | hx
    · exact hn k (hd k hk).1
    · exact (hd k hk).2 x hx
theorem Fam.power (a : Fam Z w0 W gd n p js D) (ok : p.m.Ok n) (hp : p.m.powers < 1073741824) (A : Option Addr) (q c : Nat) (keep : List Bool) (hk : ∀ S : Nat → Prop, (∀ k, S k → w0.heap.size ≤ k) → HasNo W S A q keep) (h1 : q ≤ c) (h2 : q ≤ 1073741824) :
    Calls Try.prog 22 #[.pointer (some ⟨gd, 0, none⟩), .slice A q c] W fun en W' => en = .returned (.tuple #[]) ∧ Fam Z w0 W' gd n ⟨p.m.powerM n keep, 0⟩ js D ∧ Only (fun k => ¬ D k) W W' := by
  obtain ⟨B, on, e, hj, hne, hd⟩ := a
  refine (on.power ok hp A q c keep (fun S h _ => hk S h) h1 h2).mono ?_
  rintro en W' ⟨he, o', y⟩
  refine ⟨he, ⟨B, o', rfl, fun x hx => ?_, hne, hd⟩, y.mono (fun k _ hk hD => hk (hd k hD).1)⟩
  obtain ⟨o, b1, b2⟩ := hj x hx
  exact ⟨o.only y (fun hh => hh b1) (fun hh => hh b2), b1, b2⟩
end
end Go.Proofs.Ythfmkdeglceppaa
