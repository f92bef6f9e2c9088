/-
  Own work. A journal beside blocks of the call's own; all its home sectors as texts (homes).
-/
import Derived.Test.YtadagbkfemcgfaaAk
namespace Go.Proofs.Ytadagbkfemcgfaa
open Go.RowKit Go.Maps
set_option linter.unusedVariables false
set_option linter.unusedSimpArgs false

/-- A journal made since w0, with its disk, beside the blocks B of the call's own. -/
def UpB (Z : DK) (w0 W : World) (g gd gp n : Nat) (p : Pt) (j : JM) (B : Nat → Prop) : Prop :=
  ∃ S, OwD Z w0 W gd S n p.m ∧ JO W g gd gp n p.e j ∧ ¬ S g ∧ ¬ S gp ∧ w0.heap.size ≤ g ∧ w0.heap.size ≤ gp ∧ ∀ k, B k → ¬ S k ∧ k ≠ g ∧ k ≠ gp ∧ w0.heap.size ≤ k ∧ k < W.heap.size
section
variable {Z : DK} {w0 W W' : World} {g gd gp n V T u r : Nat} {p p' : Pt} {j j' : JM} {H : Nat → List UInt8} {S B B' : Nat → Prop}
theorem UpB.up (a : UpB Z w0 W g gd gp n p j B) : UpJ Z w0 W g gd gp n p j := by
  obtain ⟨S, d, o, h1, h2, h3, h4, _⟩ := a
  exact ⟨S, d, o, h1, h2, h3, h4⟩
theorem UpJ.b (a : UpJ Z w0 W g gd gp n p j) : UpB Z w0 W g gd gp n p j (fun _ => False) := by
  obtain ⟨S, d, o, h1, h2, h3, h4⟩ := a
  exact ⟨S, d, o, h1, h2, h3, h4, fun k hk => hk.elim⟩
theorem UpB.own (a : UpB Z w0 W g gd gp n p j B) (ho : Only (fun k => B k ∨ W.heap.size ≤ k) W W') (hB : ∀ k, B' k → B k ∨ (W.heap.size ≤ k ∧ k < W'.heap.size)) : UpB Z w0 W' g gd gp n p j B' := by
  obtain ⟨S, d, o, h1, h2, h3, h4, h5⟩ := a
  have hz := d.bel.size
  have hs := ho.size
  have hlt := o.lt
  have hltp := o.ltp
  refine ⟨S, ⟨Z.only d.d ho (fun k hk hh => hh.elim (fun h => (h5 k h).1 hk) (fun h => by have := d.slt k hk; omega)), d.s0, d.bel.trans (ho.to_below (fun k hk => hk.elim (fun h => (h5 k h).2.2.2.1) (fun h => by omega)) hz)⟩, o.only ho (fun hh => hh.elim (fun h => (h5 g h).2.1 rfl) (fun h => by omega)) (fun hh => hh.elim (fun h => (h5 gp h).2.2.1 rfl) (fun h => by omega)), h1, h2, h3, h4, fun k hk => ?_⟩
  rcases hB k hk with h | h
  · obtain ⟨q1, q2, q3, q4, q5⟩ := h5 k h
    exact ⟨q1, q2, q3, q4, by omega⟩
  · exact ⟨fun hh => by have := d.slt k hh; omega, by omega, by omega, by omega, h.2⟩
theorem UpB.below (a : UpB Z w0 W g gd gp n p j B) (hb : Below W.heap.size W W') : UpB Z w0 W' g gd gp n p j B := a.own (Only.of_below hb (Nat.le_refl _)) (fun k hk => .inl hk)
theorem UpB.less (a : UpB Z w0 W g gd gp n p j B) (h : ∀ k, B' k → B k) : UpB Z w0 W g gd gp n p j B' := a.own (Only.refl _ _) (fun k hk => .inl (h k hk))
/-- A call that leaves a journal's own blocks turned alone. -/
theorem UpB.left (a : UpB Z w0 W g gd gp n p j B) (h : ∀ S, Z.D W gd S n p.m → JO W g gd gp n p.e j → Apart W g gp S → LeftJ Z W g gd gp n S p' j' W') : UpB Z w0 W' g gd gp n p' j' B ∧ Only (fun k => ¬ B k) W W' := by
  obtain ⟨S, d, o, h1, h2, h3, h4, h5⟩ := a
  obtain ⟨⟨S2, d2, hs2⟩, o2, y2⟩ := h S d.d o ⟨h1, h2, o.lt, o.ltp, o.ne⟩
  have hlt := o.lt
  have hltp := o.ltp
  have hz := d.bel.size
  have hys := y2.size
  refine ⟨⟨S2, ⟨d2, fun k hk => (hs2 k hk).elim (d.s0 k) (fun h => by omega), d.bel.trans (y2.to_below (fun k hk => ?_) hz)⟩, o2, fun hh => (hs2 g hh).elim h1 (fun h => by omega), fun hh => (hs2 gp hh).elim h2 (fun h => by omega), h3, h4, fun k hk => ?_⟩, y2.mono (fun k _ hk hb => ?_)⟩
  · rcases hk with h | h | h
    · exact d.s0 k h
    · omega
    · omega
  · obtain ⟨q1, q2, q3, q4, q5⟩ := h5 k hk
    exact ⟨fun hh => (hs2 k hh).elim q1 (fun h => by omega), q2, q3, q4, by omega⟩
  · obtain ⟨q1, q2, q3, q4, q5⟩ := h5 k hb
    rcases hk with h | h | h
    · exact q1 h
    · exact q2 h
    · exact q3 h
theorem UpB.read (a : UpB Z w0 W g gd gp n p j B) (b : SJ p n V j T u r H) (hV : V ≤ 1073000000) (i : Nat) (hi : i < n - 2 - r) :
    Calls Try.prog 40 #[.pointer (some ⟨g, 0, none⟩), .int .i64 (i : Int)] W fun en W' => ∃ A q c, en = .returned (.tuple #[.slice A q c, .int .i64 0]) ∧ OwnX W' W.heap.size (.slice A q c) (H i) ∧ UpB Z w0 W' g gd gp n p j B ∧ Only (fun k => ¬ B k) W W' := by
  obtain ⟨r1, r2, r3⟩ := b.read hV hi
  obtain ⟨_, ok, _, hw, _, _⟩ := b.jok hV
  have hn2 := ok.n2
  have a' := a
  obtain ⟨S, d, o, h1, h2, h3, h4, h5⟩ := a'
  refine (jread_any (i : Int) o d.d ok (by omega) ⟨h1, h2, o.lt, o.ltp, o.ne⟩).mono ?_
  rintro en W' ⟨A, q, c, he, ho, lj⟩
  rw [r1] at he
  rw [r2] at ho
  rw [r3] at lj
  obtain ⟨⟨S2, d2, hs2⟩, o2, y2⟩ := lj
  have hlt := o.lt
  have hltp := o.ltp
  have hz := d.bel.size
  have hys := y2.size
  refine ⟨A, q, c, he, ho, ⟨S2, ⟨d2, fun k hk => (hs2 k hk).elim (d.s0 k) (fun h => by omega), d.bel.trans (y2.to_below (fun k hk => ?_) hz)⟩, o2, fun hh => (hs2 g hh).elim h1 (fun h => by omega), fun hh => (hs2 gp hh).elim h2 (fun h => by omega), h3, h4, fun k hk => ?_⟩, y2.mono (fun k _ hk hb => ?_)⟩
  · rcases hk with h | h | h
    · exact d.s0 k h
    · omega
    · omega
  · obtain ⟨q1, q2, q3, q4, q5⟩ := h5 k hk
    exact ⟨fun hh => (hs2 k hh).elim q1 (fun h => by omega), q2, q3, q4, by omega⟩
  · obtain ⟨q1, q2, q3, q4, q5⟩ := h5 k hb
    rcases hk with h | h | h
    · exact q1 h
    · exact q2 h
    · exact q3 h
/-- The texts of the first k homes. -/
def hsL (H : Nat → List UInt8) (k : Nat) : List (List UInt8) := (List.range k).map H
theorem hsL_succ (H : Nat → List UInt8) (k : Nat) : hsL H (k + 1) = hsL H k ++ [H k] := by unfold hsL; rw [List.range_succ, List.map_append]; rfl
theorem hsL_len (H : Nat → List UInt8) (k : Nat) : (hsL H k).length = k := by simp [hsL]
def strs (l : List (List UInt8)) : List Value := l.map fun x => Value.string (strB x)
theorem OwnV.hasS {w : World} {base n c : Nat} {A : Option Addr} {xs : List (List UInt8)} (h : OwnV 9 w base (.slice A n c) (strs xs)) : HasS w A n xs := by
  have hl := h.len
  refine ⟨by rw [hl]; simp [strs], fun hn => ?_⟩
  obtain ⟨g, rfl, _, _, hc⟩ := h.at_ hn
  refine ⟨g, 0, rfl, fun k x hx => ?_⟩
  rw [Nat.zero_add]
  refine hc k _ ?_
  unfold strs
  rw [List.getElem?_map, hx]
  rfl
set_option maxRecDepth 100000 in
set_option maxHeartbeats 2000000 in
theorem homes_all (a : UpB Z w0 W g gd gp n p j B) (b : SJ p n V j T u r H) (hV : V ≤ 1073000000) (hB : ∀ k, B k → k < W.heap.size) :
    Calls Try.prog 23 #[.pointer (some ⟨g, 0, none⟩)] W fun en W' => ∃ A c, en = .returned (.slice A (n - 2 - r) c) ∧ OwnV 9 W' W.heap.size (.slice A (n - 2 - r) c) (strs (hsL H (n - 2 - r))) ∧ UpB Z w0 W' g gd gp n p j (fun k => B k ∨ (Value.slice A (n - 2 - r) c).ownBlock = some k) ∧ Only (fun k => ¬ B k) W W' := by
  have hn2 : n ≤ 4096 := (b.jok hV).2.1.n2
  have CH : Hid (∀ W B, UpB Z w0 W g gd gp n p j B → Calls Try.prog 41 #[.pointer (some ⟨g, 0, none⟩)] W (RetV2 W (.int .i64 ((n - 2 - r : Nat) : Int)))) := Lib.hid (fun W B a => homes_up a.up b hV)
  have CR : Hid (∀ W B (i : Nat), UpB Z w0 W g gd gp n p j B → i < n - 2 - r → Calls Try.prog 40 #[.pointer (some ⟨g, 0, none⟩), .int .i64 (i : Int)] W fun en W' => ∃ A q c, en = .returned (.tuple #[.slice A q c, .int .i64 0]) ∧ OwnX W' W.heap.size (.slice A q c) (H i) ∧ UpB Z w0 W' g gd gp n p j B ∧ Only (fun k => ¬ B k) W W') := Lib.hid (fun W B i a hi => a.read b hV i hi)
  obtain ⟨h, hh⟩ : ∃ h, n - 2 - r = h := ⟨_, rfl⟩
  have hh2 : h ≤ 4096 := by omega
  rw [hh] at CH CR ⊢
  have AA := Lib.hid a
  have HB := Lib.hid hB
  clear a b hV hB hh
  go_enter Try.func23, Try.ntmps23
  go_wp2_with fail
  go_loopw [3, 4] (fun v i wr => ∃ (k : Nat) (A' : Option Addr) (c' : Nat), k ≤ h ∧ i = .int .i64 (k : Int) ∧ v = .slice A' k c' ∧ OwnV 9 wr W.heap.size (.slice A' k c') (strs (hsL H k)) ∧ UpB Z w0 wr g gd gp n p j (fun q => B q ∨ (Value.slice A' k c').ownBlock = some q) ∧ Only (fun q => ¬ B q) W wr) (fun _ i _ => h - (Go.RowKit.intOf i).toNat)
  case atStart => exact ⟨0, none, 0, Nat.zero_le _, rfl, rfl, OwnV.nil _ _ _, AA.out.own (Only.refl _ _) (fun q hq => hq.elim (fun h => .inl h) (fun h => by cases h)), Only.refl _ _⟩
  case round =>
    obtain ⟨k, A', c', hk, rfl, rfl, qo, qu, qy⟩ := hrel
    have QO := Lib.hid qo
    have QU := Lib.hid qu
    have QY := Lib.hid qy
    clear qo qu qy
    by_cases hlt : k < h
    · go_wp2_with (first
        | (go_at_call 41; refine (CH.out _ _ QU.out).mono ?_; rintro en w1 ⟨rfl, b1⟩
           have U1 := Lib.hid (QU.out.below b1)
           have O1 := Lib.hid (QO.out.below b1)
           have Y1 := Lib.hid (QY.out.trans (Only.of_below b1 (Nat.le_refl _)))
           clear b1)
        | (go_at_call 40; refine (CR.out _ _ k U1.out hlt).mono ?_; rintro en w2 ⟨A2, n2', c2, rfl, x2, u2', y2⟩
           have U2 := Lib.hid u2'
           have O2 := Lib.hid (O1.out.only y2 (fun q hq hn => hn (.inr hq)))
           have Y2 := Lib.hid (Y1.out.trans (y2.mono (fun q _ hn hb => hn (.inl hb))))
           have hcv : (convert 24 9 (.slice A2 n2' c2)).run Try.prog w2 = .ok (.string (strB (H k))) w2 := run_conv Try.underlying24 Try.underlying5 Try.underlying9 _ _ _ c2 _ x2.has
           have CV := Lib.hid hcv
           have b3 : Below w2.heap.size w2 (w2.alloc (.cells #[.string (strB (H k))] 9)) := (Below.refl _ _).alloc (Nat.le_refl _) _
           have O3 := Lib.hid (O2.out.below b3)
           have U3 := Lib.hid (U2.out.below b3)
           have Y3 := Lib.hid (Y2.out.trans (Only.of_below b3 (Nat.le_refl _)))
           clear x2 u2' y2 hcv b3)
        | (refine wpList_convG (by rfl) 24 9 (.tmp 20) rfl _ _ rfl CV.out ?_)
        | (at_builtin; refine wp_appV rfl (.tmp 19) (.tmp 22) 48 9 _ 16 rfl Try.underlying48 infoStr rfl W.heap.size _ (strs (hsL H k)) [.string (strB (H k))] rfl O3.out _ _ _ rfl rfl (cell_one_new _ _ _) (by simp [Value.oneCell']) (by have := O3.out.len; simp [strs, hsL_len]; omega) Y3.out.size ?_
           intro A4 n4 c4 w4 own4 gr4 b4 ob4
           have OW4 := Lib.hid own4
           have GR4 := Lib.hid (Only.grownO gr4)
           have OB4 := Lib.hid ob4
           clear own4 gr4 b4 ob4))
      have e4 : strs (hsL H k) ++ [.string (strB (H k))] = strs (hsL H (k + 1)) := by rw [hsL_succ]; simp [strs]
      have OX4 := OW4.out
      rw [e4] at OX4
      have hn4 := OX4.len
      have hn4' : k + 1 = n4 := by rw [hn4]; simp [strs, hsL_len]
      subst hn4'
      have OX4' := Lib.hid OX4
      clear OX4 e4 hn4
      go_roundw
      case rel =>
        refine ⟨k + 1, A4, c4, by omega, by go_num, rfl, OX4'.out, U3.out.own (GR4.out.mono (fun q _ hq => .inl (.inr hq))) (fun q hq => ?_), Y3.out.trans (GR4.out.mono (fun q hq hq2 hb => ?_))⟩
        · rcases hq with hq | hq
          · exact .inl (.inl hq)
          · rcases OB4.out with h4 | h4
            · rw [h4] at hq; exact .inl (.inr hq)
            · have h5 := (OX4'.out.lt q hq).2
              rw [h4] at hq
              injection hq with hq
              exact .inr ⟨by omega, h5⟩
        · have := (O3.out.lt q hq2).1
          have := HB.out q hb
          omega
      case measure => simp [Go.RowKit.intOf]; omega
    · obtain rfl : k = h := by omega
      go_wp2_with (first
        | (go_at_call 41; refine (CH.out _ _ QU.out).mono ?_; rintro en w1 ⟨rfl, b1⟩
           have U1 := Lib.hid (QU.out.below b1)
           have O1 := Lib.hid (QO.out.below b1)
           have Y1 := Lib.hid (QY.out.trans (Only.of_below b1 (Nat.le_refl _)))
           clear b1))
      go_ret
      exact ⟨A', c', rfl, O1.out, U1.out, Y1.out⟩
end
end Go.Proofs.Ytadagbkfemcgfaa
