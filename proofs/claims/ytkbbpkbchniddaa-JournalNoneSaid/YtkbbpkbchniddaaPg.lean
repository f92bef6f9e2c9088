/-
  Own work. The program's disk: Flush.
-/
import Derived.Test.YtkbbpkbchniddaaPf
namespace Go.Proofs.Ytkbbpkbchniddaa
open Go.RowKit Go.Maps
set_option linter.unusedVariables false
set_option linter.unusedSimpArgs false

section
variable {S : Nat → Prop} {w w' : World} {g gd gp n : Nat} {m m' : RM} {x x' : PX} {D : DU}
/-- Flush's loop: the map under way, of which 'left' is still to come. -/
structure FlS (w wr : World) (g gd gp n r : Nat) (m : RM) (x : PX) (D : DU) (left : Lit → Bool) (cnt : Nat) : Prop where
  d : PrD wr g gd gp n { m with last := mix m n (fun i => pendB m i && !left (kI i)) } x D
  r : wr.ranges Try.prog 3 secElem gp r m.wrote D left cnt
  l : ∀ kl, left kl = true → Maps.has D kl = true
  o : Only (PrB g gd gp x) w wr
theorem Only.blocks {S : Nat → Prop} {w w' : World} {r : Option Nat} (h : w.grownBy w' r) (hr : ∀ b, r = some b → S b) : Only S w w' :=
  ⟨h.os, h.tape, h.output, h.size, fun k hk hS => h.block k hk (fun e => hS (hr k e.symm))⟩
theorem Only.new {S : Nat → Prop} {w w1 w' : World} {r : Nat} (h : Only S w w1) (h2 : Only (fun j => j = r) w1 w') (hr : w.heap.size ≤ r) : Only S w w' :=
  ⟨h2.os.trans h.os, h2.tape.trans h.tape, h2.output.trans h.output, Nat.le_trans h.size h2.size, fun k hk hS => (h2.block k (Nat.lt_of_lt_of_le hk h.size) (by omega)).trans (h.block k hk hS)⟩
theorem ranges_only {wr w' : World} {r c : Nat} {left : Lit → Bool} {cnt : Nat} {S : Nat → Prop} (h : wr.ranges Try.prog 3 secElem gp r c D left cnt) (ho : Only S wr w') (h1 : ¬ S gp) (h2 : ¬ S r) : w'.ranges Try.prog 3 secElem gp r c D left cnt := by
  have l1 := h.owns.lt
  have l2 := h.lt
  obtain ⟨es, clock, since, seen, c0, hb, F, hs, hD, hr, rest⟩ := h
  exact ⟨es, clock, since, seen, c0, (ho.block gp l1 h1).trans hb, F, hs, hD, (ho.block r l2 h2).trans hr, rest⟩

theorem PrB_eq (q : x'.TA = x.TA ∧ x'.tn = x.tn ∧ x'.tc = x.tc) : PrB g gd gp x' = PrB g gd gp x := by
  obtain ⟨q1, q2, q3⟩ := q
  funext j
  unfold PrB
  rw [q1, q2, q3]

set_option maxRecDepth 100000 in
set_option maxHeartbeats 2000000 in
theorem pflush (h : PrD w g gd gp n m x D) (ok : m.Ok n) : Calls Try.prog 71 #[.pointer (some ⟨g, 0, none⟩)] w (Left2 PD w g (PrB g gd gp x) n (.int .i64 m.flushE) (m.flushM n)) := by
  have C := Lib.hid (ppower_chk h ok)
  have CF := Lib.hid (pfails h ok)
  have OG := Lib.hid ok.go
  have n2 := ok.n2
  have same : Left2 PD w g (PrB g gd gp x) n (.int .i64 8) m (.returned (.int .i64 8)) w := ⟨rfl, ⟨_, ⟨gd, gp, x, D, h, rfl⟩, fun _ hk => .inl hk⟩, Only.refl _ _⟩
  have SM := Lib.hid same
  have HLT := Lib.hid h.lt
  clear same
  unfold RM.pE at C
  by_cases ho : m.off = true
  · have e1 : m.flushE = 8 := by unfold RM.flushE; rw [if_pos ho]
    have e2 : m.flushM n = m := by unfold RM.flushM; rw [if_pos ho]
    rw [e1, e2]
    rw [if_pos ho] at C
    clear h ok CF ho e1 e2
    go_enter Try.func71, Try.ntmps71
    go_wp2_with (go_at_call 91; refine C.out.mono ?_; rintro e w1' ⟨rfl, rfl⟩)
    go_ret
    exact SM.out
  · rw [if_neg ho] at C
    cases hgo : m.goB with
    | false =>
      have e1 : m.flushE = 8 := by unfold RM.flushE; rw [if_neg ho, hgo, if_neg (by decide)]
      have e2 : m.flushM n = m.goM := by unfold RM.flushM; rw [if_neg ho, hgo, if_neg (by decide)]
      rw [e1, e2]
      rw [hgo] at CF
      clear h ok ho e1 e2 hgo SM
      go_enter Try.func71, Try.ntmps71
      go_wp2_with (first
        | (go_at_call 91; refine C.out.mono ?_; rintro e w1' ⟨rfl, rfl⟩)
        | (go_at_call 92; refine CF.out.mono ?_; rintro e w1 ⟨rfl, ⟨x1, d1, q1, q2, q3⟩, o1⟩
           have D1 := Lib.hid d1
           have O1 := Lib.hid o1
           have Q1 := Lib.hid (And.intro q1 (And.intro q2 q3))
           clear d1 o1 q1 q2 q3))
      go_ret
      refine ⟨rfl, ⟨_, ⟨gd, gp, x1, D, D1.out, rfl⟩, fun j hj => .inl ?_⟩, O1.out.mono (fun j _ e => .inl e)⟩
      rwa [PrB_eq Q1.out] at hj
    | true =>
      have e1 : m.flushE = 0 := by unfold RM.flushE; rw [if_neg ho, hgo, if_pos rfl]
      have e2 : m.flushM n = m.goM.flK n := by unfold RM.flushM; rw [if_neg ho, hgo, if_pos rfl]
      rw [e1, e2]
      rw [hgo] at CF
      obtain ⟨M, hM⟩ : ∃ M, m.goM = M := ⟨_, rfl⟩
      rw [hM] at CF OG ⊢
      obtain ⟨W, hW, hW0⟩ := flush_end M n OG.out
      rw [hW]
      have HW0 := Lib.hid hW0
      clear h ok ho e1 e2 hgo SM hM hW hW0
      go_enter Try.func71, Try.ntmps71
      go_wp2_with (first
        | (go_at_call 91; refine C.out.mono ?_; rintro e w1' ⟨rfl, rfl⟩)
        | (go_at_call 92; refine CF.out.mono ?_; rintro e w1 ⟨rfl, ⟨x1, d1, q1, q2, q3⟩, o1⟩
           have k1 := d1.pm
           have D1 := Lib.hid d1
           have O1 := Lib.hid o1
           have Q1 := Lib.hid (And.intro q1 (And.intro q2 q3))
           clear d1 o1 q1 q2 q3)
        | (at_range; refine wpList_range_own _ rfl _ 89 rfl 3 104 intK Try.underlying89 secElem gp M.wrote D rfl D1.out.map ?_; intro w2 hrg0 hg0 hs0))
      go_frame
      have hF0 : FlS w w2 g gd gp n w1.heap.size M x1 D (Maps.has D) (Maps.size D) := by
        have e0 : mix M n (fun i => pendB M i && !Maps.has D (kI i)) = M.last := mix_none M n OG.out _ fun i hi => by
          show (pendB M i && !Maps.has D (kI i)) = false
          rw [D1.out.mo.hi i hi]
          show (decide _ && !decide _) = false
          cases decide ((M.wait.getD i emp).size ≠ 0) <;> rfl
        have oo : Only (fun _ => False) w1 w2 := Only.blocks hg0 (fun b e => by cases e)
        refine ⟨?_, hrg0, fun _ h => h, ?_⟩
        · rw [e0]
          exact D1.out.only oo (fun _ _ h => h)
        · obtain ⟨q1, q2, q3⟩ := Q1.out
          exact (O1.out.mono (fun j _ e => .inl e)).trans (oo.mono (fun _ _ h => h.elim))
      have F0 := Lib.hid hF0
      have hsz1 : w.heap.size ≤ w1.heap.size := O1.out.size
      clear hF0 hrg0 hg0 k1
      go_loopw [4, 5] (fun _ _ wr => ∃ (left : Lit → Bool) (cnt : Nat), FlS w wr g gd gp n w1.heap.size M x1 D left cnt) (fun _ _ wr => wr.rangeLeft gp w1.heap.size)
      case atStart => exact ⟨_, _, F0.out⟩
      case round =>
        obtain ⟨left, cnt, hF⟩ := hrel
        have FR := Lib.hid hF
        have k0 := hF.d.du
        have k1 := hF.d.pm
        clear hF
        go_wp2_with (first
          | (at_next; refine wpList_next_ranges _ rfl _ rfl 3 intK secElem encZ id (fun key kl hk => by obtain ⟨x, hx, _⟩ := Maps.keyOf_i64 Try.underlying3 hk; exact ⟨x, hx⟩) (fun v _ _ => ⟨v, rfl⟩) gp w1.heap.size M.wrote D left cnt rfl FR.out.r ?_ ?_))
        · -- nothing is left
          intro hc0 hl0
          have eL : mix M n (fun i => pendB M i && !left (kI i)) = mix M n (pendB M) := mix_same M n _ _ fun i _ => by
            show (pendB M i && !left (kI i)) = pendB M i
            rw [hl0]
            cases pendB M i <;> rfl
          have EL := Lib.hid eL
          clear eL hl0 hc0
          go_wp2_with (first
            | (refine wpList_clearS rfl (.tmp 33) rfl rfl M.wrote FR.out.r.owns ?_; intro w9 own9 o9
               have W9 := Lib.hid own9
               have O9 := Lib.hid o9
               clear own9 o9))
          go_ret
          have DF := FR.out.d
          rw [EL.out] at DF
          have oo := FR.out.o.trans (O9.out.mono (fun j _ e => .inr (.inr (.inl e))))
          rw [PrB_eq Q1.out] at oo
          refine ⟨rfl, ⟨_, ⟨gd, gp, x1, .map [], DF.cleared W9.out O9.out HW0.out, rfl⟩, fun j hj => .inl ?_⟩, oo⟩
          rwa [PrB_eq Q1.out] at hj
        · -- an entry has come
          intro xx v kl yd yp w5 cnt2 hkey hlk hv hat hrg2 hlt hg2 hs2 hen
          obtain ⟨x', ex, rfl, _⟩ := Maps.keyOf_i64 Try.underlying3 hkey
          obtain rfl : xx = x' := encZ_inj ex
          obtain ⟨i, hi, ei⟩ := D1.out.mo.hs _ (FR.out.l _ hlk)
          obtain rfl : xx = (i : Int) := by unfold kI at ei; injection ei
          have hp : pendB M i = true := by have h1 := FR.out.l _ hlk; rw [ei, D1.out.mo.hi i hi] at h1; exact h1
          have hp' : (M.wait.getD i emp).size ≠ 0 := of_decide_eq_true hp
          have h512 : (M.wait.getD i emp).size = 512 := by have := OG.out.wsz hi; omega
          obtain ⟨l, rfl, hl, e2⟩ := secElem_inv hv
          rw [Prod.mk.injEq] at e2
          obtain ⟨rfl, rfl⟩ := e2
          obtain rfl : l = lst (M.wait.getD i emp) := by
            have h1 := hat .nil
            have h2 := D1.out.mo.at_ i hi hp' .nil
            unfold kI at h2
            rw [h2] at h1
            injection h1 with h1
            injection h1 with h1
            exact h1.symm
          obtain ⟨s, hs⟩ : ∃ s, M.wait.getD i emp = s := ⟨_, rfl⟩
          rw [hs] at h512 hp' hl hen
          have HS := Lib.hid hs
          have RG2 := Lib.hid hrg2
          have LK := Lib.hid hlk
          have G2 := Lib.hid hg2
          have HL := Lib.hid hl
          have HI := Lib.hid hi
          have SS := Lib.hid (sizeSec hl)
          have H512 := Lib.hid h512
          have HP := Lib.hid hp
          have sz5 : w1.heap.size < w5.heap.size := by rw [hs2]; exact FR.out.r.lt
          have hltc := Lib.hid hlt
          clear hv hat hkey hlk ei ex hp hs hrg2 hg2 hl hi h512 hlt hp' hs2
          go_upto_region 9 with (first
            | (refine wpList_allocW rfl 104 rfl _ zeroSecI ?_)
            | (refine wpList_store_row rfl 104 (.tmp 5) (.tmp 22) rfl w5.heap.size (cellsB (lst s)).toArray rfl rfl 104 _ (heap_alloc_new w5 _) SS.out (by rw [cellsB_size, cellsB_size, HL.out]; rfl) (cellsB_ones _) ?_))
          have Z1 : ((w5.alloc (.cells (cellsB (zer 512)).toArray 104)).setRow w5.heap.size (cellsB (lst s)).toArray).heap[w5.heap.size]? = some (.cells (cellsB (lst s)).toArray 104 (0, 0)) := setRow_heap _ _ _ _ 104 _ (heap_alloc_new w5 _)
          have B1 : Below w5.heap.size w5 ((w5.alloc (.cells (cellsB (zer 512)).toArray 104)).setRow w5.heap.size (cellsB (lst s)).toArray) := below_setRow ((Below.refl _ _).alloc (Nat.le_refl _) _) (Nat.le_refl _) _
          generalize World.setRow _ _ (cellsB (lst s)).toArray = w6 at Z1 B1 ⊢
          obtain ⟨w7, h7⟩ : ∃ w7, w6.drew = w7 := ⟨_, rfl⟩
          have Z7 : w7.heap[w5.heap.size]? = some (.cells (cellsB (lst s)).toArray 104 (0, 0)) := by rw [← h7]; exact Z1
          have B7 : Below w5.heap.size w5 w7 := by rw [← h7]; exact B1.drew
          have o5 : Only (fun j => j = w1.heap.size) wr w5 := Only.grown G2.out
          have ne5 : ∀ k, PrB g gd gp x1 k → ¬ k = w1.heap.size := fun k hk e => by have := D1.out.lt k hk; omega
          have P5 : PrD w5 g gd gp n { M with last := mix M n (fun i => pendB M i && !left (kI i)) } x1 D := FR.out.d.only o5 ne5
          have P7 : PrD w7 g gd gp n { M with last := mix M n (fun i => pendB M i && !left (kI i)) } x1 D := P5.keepB B7
          have R7 := ranges_only RG2.out (Only.of_below (S := fun _ => False) B7 (Nat.le_refl _)) (fun h => h) (fun h => h)
          have OW7 : Only (PrB g gd gp x1) w w7 := (FR.out.o.new o5 hsz1).trans (Only.of_below B7 (Nat.le_refl _))
          have LD := Lib.hid (run_loadVar_row w7 w5.heap.size _ 104 _ (0, 0) _ Z7 Try.underlying104 rfl SS.out)
          have k7 : w6.cell? ⟨g, 0, none⟩ = some (.slice (some ⟨gd, 0, none⟩) n x1.cd) := by have := P7.du; rw [← h7] at this; exact this
          have P7h := Lib.hid P7
          have R7h := Lib.hid R7
          have O7h := Lib.hid OW7
          have H7 := Lib.hid h7
          have hi' := HI.out
          clear Z1 B1 Z7 B7 o5 ne5 P5 P7 R7 OW7 h7
          go_still_tail 7, (by kernel_rfl)
          change wpStill _ _ w6.drew _ _ _
          rw [H7.out]
          refine wpStill_step (fun K hK => ?_)
          refine stillL2 rfl (ad := ⟨w5.heap.size, 0, none⟩) rfl LD.out ?_
          refine hK _ ?_
          clear hK K
          simp only [Act.put, List.setIfInBounds_toArray, List.set_cons_zero, List.set_cons_succ]
          still_step
          refine wpStill_nil ?_
          change wpList _ _ _ _ _ w6.drew
          rw [H7.out]
          have okL : ({ M with last := mix M n (fun i => pendB M i && !left (kI i)) } : RM).Ok n := OG.out.mixed (fun i _ h => by
            have h' : (pendB M i && !left (kI i)) = true := h
            rw [Bool.and_eq_true] at h'
            exact h'.1)
          have OL := Lib.hid okL
          clear okL k7
          obtain ⟨L, hL⟩ : ∃ L, mix M n (fun i => pendB M i && !left (kI i)) = L := ⟨_, rfl⟩
          rw [hL] at P7h OL
          have HLL := Lib.hid hL
          have fit : i * 512 + (cellsB (lst s)).toArray.size ≤ (cellsB (flat L) ++ x1.ex).toArray.size := by
            have h1 : (flat L).length = 512 * L.length := flat_len OL.out.ls
            have h2 : L.length = n := OL.out.nl
            simp only [List.size_toArray, List.length_append, cellsB_length, h1, h2, HL.out]
            omega
          have FT := Lib.hid fit
          clear hL fit
          go_wp2_with (first
            | (refine wpList_storePart rfl 104 (.tmp 29) (.tmp 28) rfl gd (i * 512) (cellsB (lst s)).toArray rfl rfl 104 (cellsB (flat L) ++ x1.ex).toArray P7h.out.row SS.out FT.out (fun v hv => cellsB_one _ v (by simpa using hv)) ?_
               change wpList _ _ _ _ _ (w7.setRow gd (secRow L x1.ex i (lst s)))))
          have o8 : Only (fun j => j = gd) w7 (w7.setRow gd (secRow L x1.ex i (lst s))) := (Only.refl _ _).setRow (S := fun j => j = gd) rfl _
          have R8 := ranges_only R7h.out o8 (fun e => P7h.out.d3 e.symm) (fun e => by have := D1.out.row.lt; omega)
          have P8 := P7h.out.setSec OL.out hi' H512.out
          have O8 : Only (PrB g gd gp x1) w (w7.setRow gd (secRow L x1.ex i (lst s))) := O7h.out.trans (o8.mono (fun j _ e => .inr (.inl e)))
          have eL : L.set i s = mix M n (fun j => pendB M j && !(left (kI j) && !(kI j).sameKey (kI i))) := by
            rw [← HLL.out, ← HS.out]
            refine (mix_set M n _ _ i hi' ?_ fun j hj hne => ?_).symm
            · show (pendB M i && !(left (kI i) && !(kI i).sameKey (kI i))) = true
              rw [HP.out, WideAt.sameKey_self (kI_key i)]
              simp
            · show (pendB M j && !(left (kI j) && !(kI j).sameKey (kI i))) = (pendB M j && !left (kI j))
              rw [sameKey_ne (fun e => hne (kI_inj e))]
              simp
          have P8' : PrD (w7.setRow gd (secRow L x1.ex i (lst s))) g gd gp n { M with last := mix M n (fun j => pendB M j && !(left (kI j) && !(kI j).sameKey (kI i))) } x1 D := eL ▸ P8
          have P8h := Lib.hid P8'
          have R8h := Lib.hid R8
          have O8h := Lib.hid O8
          have ML : (w7.setRow gd (secRow L x1.ex i (lst s))).rangeLeft gp w1.heap.size < wr.rangeLeft gp w1.heap.size := by rw [R8.left_eq, FR.out.r.left_eq]; exact hltc.out
          have MLh := Lib.hid ML
          clear P8 P8' R8 O8 o8 eL ML
          generalize w7.setRow gd (secRow L x1.ex i (lst s)) = w8 at P8h R8h O8h MLh ⊢
          go_roundw
          case rel => exact ⟨_, _, _, _, _, _, _, _, _, _, _, _, _, _, ⟨fun z => left z && !z.sameKey (kI i), cnt2, P8h.out, R8h.out, fun kl hk => FR.out.l kl (by have hk' : (left kl && !kl.sameKey (kI i)) = true := hk; rw [Bool.and_eq_true] at hk'; exact hk'.1), O8h.out⟩, rfl⟩
          case measure => exact MLh.out
end
end Go.Proofs.Ytkbbpkbchniddaa
