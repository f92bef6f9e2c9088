/-
  Own work. cofferlaw5's begun, over a disk by its contracts.
-/
import Derived.Test.YtpnmcdpekfibjaaDq
namespace Go.Proofs.Ytpnmcdpekfibjaa
open Go.RowKit
set_option linter.unusedVariables false
set_option linter.unusedSimpArgs false

/-- A disk of the call's own, of the blocks S. -/
structure OwD (Z : DK) (w W : World) (g : Nat) (S : Nat → Prop) (n : Nat) (m : RM) : Prop where
  d : Z.D W g S n m
  s0 : ∀ k, S k → w.heap.size ≤ k
  bel : Below w.heap.size w W
section
variable {Z : DK} {w W W' : World} {g n : Nat} {S T : Nat → Prop} {m m' : RM} {v : Value} {e : Ending}
theorem OwD.below (h : OwD Z w W g S n m) (hb : Below W.heap.size W W') : OwD Z w W' g S n m :=
  ⟨Z.only h.d (Only.of_below (S := fun _ => False) hb (Nat.le_refl _)) (fun _ _ h => h), h.s0, h.bel.trans (hb.mono h.bel.size)⟩
theorem OwD.drew (h : OwD Z w W g S n m) : OwD Z w W.drew g S n m := ⟨Z.only h.d (Only.refl (fun _ => False) W).drew (fun _ _ h => h), h.s0, h.bel.drew⟩
theorem OwD.alloc (h : OwD Z w W g S n m) (o : Obj) : OwD Z w (W.alloc o) g S n m := h.below ((Below.refl _ _).alloc (Nat.le_refl _) o)
theorem OwD.slt (h : OwD Z w W g S n m) : ∀ k, S k → k < W.heap.size := fun k hk => Z.lt h.d k hk
theorem OwD.step (h : OwD Z w W g S n m) (l : Left2 Z.D W g S n v m' e W') : ∃ S', OwD Z w W' g S' n m' := by
  obtain ⟨_, ⟨S', d', hs⟩, ho⟩ := l
  refine ⟨S', d', fun k hk => ?_, h.bel.trans (ho.to_below h.s0 h.bel.size)⟩
  rcases hs k hk with h1 | h1
  · exact h.s0 k h1
  · exact Nat.le_trans h.bel.size h1
end
theorem RM.write_ok (m : RM) (n : Nat) (i : Int) (s : ByteArray) (h1 : m.off = false) (h2 : 0 ≤ i ∧ i < n) (h3 : s.size = 512) (h4 : m.arms < 0) :
    m.writeE n i s = 0 ∧ m.writeM n i s = { m with wait := m.wait.set i.toNat s, wrote := m.wrote + 1 } := by
  have hc : m.chk n i s = 0 := by unfold RM.chk; rw [if_neg (by rw [h1]; decide), if_neg (by omega), if_neg (by omega)]
  have hg : m.goB = true := by unfold RM.goB; rw [decide_eq_true_iff]; omega
  have hm : m.goM = m := by unfold RM.goM; rw [if_pos h4]
  constructor
  · unfold RM.writeE; rw [if_pos hc, if_pos hg]
  · unfold RM.writeM; rw [if_pos hc, if_pos hg, hm]
theorem RM.read_wait (m : RM) (n i : Nat) (s : ByteArray) (h1 : m.off = false) (h2 : i < n) (h3 : m.wait[i]? = some s) (h4 : s.size = 512) : m.readE n i = 0 ∧ m.readS n i = s := by
  have he : m.readE n i = 0 := by unfold RM.readE; rw [if_neg (by rw [h1]; decide), if_neg (by omega)]
  refine ⟨he, ?_⟩
  unfold RM.readS RM.at_
  rw [if_pos he, show ((i : Int)).toNat = i from rfl, List.getD_eq_getElem?_getD, h3, Option.getD_some, if_neg (by omega)]

set_option maxRecDepth 100000 in
set_option maxHeartbeats 1000000 in
theorem begun5_any (Z : DK) (w : World) : Calls Try.prog 9 #[] w (RetTrue w) := by
  have okN := newM_ok 32 (by omega) (by omega)
  obtain ⟨X, hX⟩ : ∃ X, strB (fullL [7]) = X := ⟨_, rfl⟩
  have hXs : X.size = 512 := by rw [← hX, strB_size, fullL_len]
  have hw := (newM 32).write_ok 32 3 X rfl (by omega) hXs (by show (-1 : Int) < 0; omega)
  obtain ⟨M, hM⟩ : ∃ M, (newM 32).writeM 32 3 X = M := ⟨_, rfl⟩
  have okM : M.Ok 32 := by rw [← hM]; exact okN.write 3 X (by show 0 < 1073741824; omega)
  have hr : M.readE 32 3 = 0 ∧ M.readS 32 3 = X := by
    refine M.read_wait 32 3 X ?_ (by omega) ?_ hXs
    · rw [← hM, hw.2]; rfl
    · rw [← hM, hw.2]
      show ((newM 32).wait.set (3 : Int).toNat X)[3]? = some X
      rw [show (3 : Int).toNat = 3 from rfl, List.getElem?_set_self (by rw [okN.nw]; omega)]
  have hwr : M.wrote = 1 := by rw [← hM, hw.2]; rfl
  have hlst : lst X = fullL [7] := by rw [← hX]; simp [lst, strB]
  have h0 : (fullL [7])[0]? = some 7 := by unfold fullL; rfl
  have cn : ∀ W, Calls Try.prog 11 #[.int .i64 32] W fun e w' => ∃ g S, e = .returned (.pointer (some ⟨g, 0, none⟩)) ∧ Z.D w' g S 32 (newM 32) ∧ (∀ k, S k → W.heap.size ≤ k) ∧ Below W.heap.size W w' := fun W => Z.new_any W 32 (by omega) (by omega)
  have cn2 : ∀ W, Calls Try.prog 11 #[.int .i64 31] W fun e w' => e = .returned (.pointer none) ∧ Below W.heap.size W w' := fun W => Z.new_no W 31 (by omega) (by omega)
  have cw : ∀ W g S' A q c, Z.D W g S' 32 (newM 32) → HasN W S' A q (fullL [7]) → q ≤ c → q ≤ 1073741824 → Calls Try.prog 23 #[.pointer (some ⟨g, 0, none⟩), .int .i64 3, .slice A q c] W (Left2 Z.D W g S' 32 (.int .i64 0) M) := fun W g S' A q c d ha h1 h2 => by
    have := Z.write_any 3 A q c (fullL [7]) d okN (by show 0 < 1073741824; omega) (by omega) ha h1 h2
    rwa [hX, hw.1, hM] at this
  have cr : ∀ W g S', Z.D W g S' 32 M → Calls Try.prog 18 #[.pointer (some ⟨g, 0, none⟩), .int .i64 3] W (RetXE W (fullL [7]) 0) := fun W g S' d => by
    have := Z.read_any 3 d okM (by omega)
    have h5 : M.readE 32 3 = 0 ∧ M.readS 32 3 = X := hr
    rwa [h5.1, h5.2, hlst] at this
  have cl : ∀ W g S', Z.D W g S' 32 M → Calls Try.prog 19 #[.pointer (some ⟨g, 0, none⟩)] W fun e w' => e = .returned (.int .i64 32) ∧ Below W.heap.size W w' := fun W g S' d => Z.len_any d okM
  have cc : ∀ W g S', Z.D W g S' 32 M → Calls Try.prog 29 #[.pointer (some ⟨g, 0, none⟩)] W fun e w' => e = .returned (.int .i64 1) ∧ Below W.heap.size W w' := fun W g S' d => by
    have := Z.writes_any d okM
    rw [hwr] at this
    exact this
  have CN := Lib.hid cn
  have CN2 := Lib.hid cn2
  have CW := Lib.hid cw
  have CR := Lib.hid cr
  have CL := Lib.hid cl
  have CC := Lib.hid cc
  have H0 := Lib.hid h0
  clear okN hX hXs hw hM okM hr hwr hlst h0 cn cn2 cw cr cl cc
  go_enter Try.func9, Try.ntmps9
  go_wp2_with (first
    | (go_at_call 11; refine (CN3.out.out _).mono ?_; rintro e w6 ⟨rfl, b6⟩
       have D6 := Lib.hid (D5.out.below b6)
       clear b6)
    | (go_at_call 11; refine (CN.out _).mono ?_; rintro e w1 ⟨g, S1, rfl, d1, s1, b1⟩
       have D1 : Hid (OwD Z w w1 g S1 32 (newM 32)) := Lib.hid ⟨d1, s1, b1⟩
       have FC := Lib.hid (full_any (some ⟨w1.heap.size, 0, none⟩) 1 1 [7] (w1.alloc (.cells (cellsB [7]).toArray 5)) _ (HasB.row w1 [7] 5) (Nat.le_refl _))
       clear d1 s1 b1)
    | (go_at_call 20; refine FC.out.mono ?_; rintro e w2 ⟨A2, n2, c2, rfl, own2, b2⟩
       have D2 := Lib.hid ((D1.out.alloc _).below b2)
       have N2 := Lib.hid (own2.outside (D1.out.alloc _).slt)
       have hn2 := own2.len
       rw [fullL_len] at hn2
       subst hn2
       have cp2 := own2.caps.1
       clear own2 b2)
    | (go_at_call 23; refine (CW.out _ _ _ _ _ _ D2.out.d N2.out cp2 (by omega)).mono ?_; rintro e w3 L3
       obtain ⟨S3, D3⟩ := D2.out.step L3
       obtain ⟨rfl, _, _⟩ := L3
       have D3 := Lib.hid D3)
    | (go_at_call 18; refine (CR.out _ _ _ D3.out.d).mono ?_; rintro e w4 ⟨A4, n4, c4, rfl, own4, b4⟩
       have D4 := Lib.hid (D3.out.below b4)
       have CN3 := Lib.hid CN2
       have hn4 := own4.len
       rw [fullL_len] at hn4
       subst hn4
       obtain ⟨g4, rfl, _, hg4, hc4⟩ := own4.head (by omega)
       have b7 : w4.cell? ⟨g4, 0, none⟩ = some (.int .u8 7) := hc4 0 7 H0.out
       have G4 := Lib.hid hg4
       have K4 := Lib.hid b7
       clear own4 b4 hc4 hg4)
    | (go_at_call 19; refine (CL.out _ _ _ D4.out.d).mono ?_; rintro e w5 ⟨rfl, b5⟩
       have D5 := Lib.hid (D4.out.below b5)
       have b8 : w5.cell? ⟨g4, 0, none⟩ = some (.int .u8 7) := (b5.cell (by exact G4.out)).trans K4.out
       clear b5)
    | (go_at_call 29; refine (CC.out _ _ _ D6.out.d).mono ?_; rintro e w7 ⟨rfl, b7⟩
       have D7 := Lib.hid (D6.out.below b7)
       clear b7))
  go_ret
  exact ⟨rfl, D7.out.bel⟩
end Go.Proofs.Ytpnmcdpekfibjaa
