/-
  Own work. The program's disk: Write.
-/
import Derived.Test.YtkbbpkbchniddaaPw0
namespace Go.Proofs.Ytkbbpkbchniddaa
open Go.RowKit Go.Maps
set_option linter.unusedVariables false
set_option linter.unusedSimpArgs false

section
variable {S : Nat → Prop} {w w' : World} {g gd gp n : Nat} {m m' : RM} {x x' : PX} {D : DU}
def PD (w : World) (g : Nat) (S : Nat → Prop) (n : Nat) (m : RM) : Prop := ∃ gd gp x D, PrD w g gd gp n m x D ∧ S = PrB g gd gp x

set_option maxRecDepth 100000 in
set_option maxHeartbeats 2000000 in
theorem pwrite (i : Int) (A : Option Addr) (q c : Nat) (l : List UInt8) (h : PrD w g gd gp n m x D) (ok : m.Ok n) (hwr : m.wrote < 1073741824) (hi : -9223372036854775808 ≤ i ∧ i ≤ 9223372036854775807)
    (hB : HasN w (PrB g gd gp x) A q l) (hqc : q ≤ c) (hq : q ≤ 1073741824) :
    Calls Try.prog 72 #[.pointer (some ⟨g, 0, none⟩), .int .i64 i, .slice A q c] w (Left2 PD w g (PrB g gd gp x) n (.int .i64 (m.writeE n i (strB l))) (m.writeM n i (strB l))) := by
  have C := Lib.hid (pcheck i h ok hi)
  have CF := Lib.hid (pfails h ok)
  have OK := Lib.hid ok
  have OG := Lib.hid ok.go
  have H := Lib.hid h
  have hl := hB.1
  have n2 := ok.n2
  have same : Left2 PD w g (PrB g gd gp x) n (.int .i64 (m.chk n i (strB l))) m (.returned (.int .i64 (m.chk n i (strB l)))) w := ⟨rfl, ⟨_, ⟨gd, gp, x, D, h, rfl⟩, fun _ hk => .inl hk⟩, Only.refl _ _⟩
  have SM := Lib.hid same
  clear same
  by_cases hc : m.chk n i (strB l) = 0
  · have hf : 0 ≤ i ∧ i < n ∧ l.length = 512 := by
      unfold RM.chk at hc
      rw [strB_size] at hc
      split at hc
      · cases hc
      · split at hc
        · cases hc
        · split at hc
          · cases hc
          · omega
    have hr0 : m.readE n i = 0 := by
      unfold RM.chk at hc
      unfold RM.readE
      split at hc
      · cases hc
      · rename_i h1
        rw [if_neg h1]
        split at hc
        · cases hc
        · rename_i h2
          rw [if_neg h2]
    rw [hr0] at C
    obtain ⟨k, rfl⟩ : ∃ k : Nat, i = (k : Int) := ⟨i.toNat, by omega⟩
    have hk : k < n := by omega
    have h512 : l.length = 512 := hf.2.2
    obtain rfl : q = 512 := by omega
    obtain ⟨gb, ob, rfl, hgb, hgs, hat⟩ := hB.at_ (by omega)
    have e1 : m.writeE n (k : Int) (strB l) = if m.goB = true then 0 else 8 := by unfold RM.writeE; rw [if_pos hc]
    have e2 : m.writeM n (k : Int) (strB l) = if m.goB = true then { m.goM with wait := m.goM.wait.set k (strB l), wrote := m.goM.wrote + 1 } else { m.goM with way := (k : Int), coming := (strB l).extract 0 m.goM.part.toNat } := by unfold RM.writeM; rw [if_pos hc, Int.toNat_natCast]
    rw [e1, e2]
    have hgw : m.goM.wrote = m.wrote := by unfold RM.goM; split <;> (try split) <;> rfl
    have HGW := Lib.hid hgw
    have HLn := Lib.hid h512
    have HB := Lib.hid hB
    have HAt := Lib.hid hat
    clear e1 e2 hr0 hc hf hgw SM h ok hl hB hat hq h512
    cases hgo : m.goB with
    | false =>
      rw [if_neg (by decide), if_neg (by decide)]
      rw [hgo] at CF
      clear hgo
      obtain ⟨pt, hpt⟩ : ∃ pt : Nat, m.goM.part = (pt : Int) := ⟨m.goM.part.toNat, by have := OG.out.pt; omega⟩
      have hp2 : pt ≤ 512 := by have := OG.out.pt; omega
      have HPT := Lib.hid hpt
      clear hpt
      have ex : lst ((strB l).extract 0 m.goM.part.toNat) = l.take pt := by
        rw [HPT.out, Int.toNat_natCast]
        show ((strB l).extract 0 pt).data.toList = _
        rw [ByteArray.data_extract, Array.toList_extract]
        simp [strB]
      have EX := Lib.hid ex
      clear ex
      go_enter Try.func72, Try.ntmps72
      go_wp2_with (first
        | (go_at_call 94; refine (cloneB_any _ _ _ (l.take pt) _ (by have := B1.out.window (k := 0) (s := pt) (by omega) (A' := some ⟨gb, ob, none⟩) (m := pt) rfl (fun _ => rfl); rwa [List.drop_zero] at this) (by omega)).mono ?_; rintro e w2 ⟨A2, n2, c2, rfl, own2, b2⟩
           have O2 := Lib.hid own2
           have BB2 := Lib.hid b2
           have k5 := (D1.out.keepB b2).blk
           have K5 := Lib.hid k5
           clear own2 b2 k5)
        | (go_at_call 93; refine C.out.mono ?_; rintro e w1' ⟨rfl, rfl⟩)
        | (go_at_call 92; refine CF.out.mono ?_; rintro e w1 ⟨rfl, ⟨x1, d1, q1, q2, q3⟩, o1⟩
           have k4 : w1.cell? ⟨g, 5, none⟩ = some (.int .i64 (pt : Int)) := by rw [← HPT.out]; exact d1.pt
           have D1 := Lib.hid d1
           have O1 := Lib.hid o1
           have Q1 := Lib.hid (And.intro q1 (And.intro q2 q3))
           have B1 := Lib.hid (HB.out.only o1 (fun k hk hkg => hk (.inl hkg))).hasB
           clear d1 o1 q1 q2 q3)
        | (refine wpList_storePart rfl 91 (.tmp 30) (.tmp 28) rfl g 6 #[.int .i64 (k : Int), .slice A2 n2 c2] rfl rfl 93 (pdC gd gp n m.goM x1) K5.out infoTear (show 8 ≤ 10 by omega) (tear_ones _ _ _ _) ?_))
      go_ret
      refine ⟨rfl, ⟨_, ⟨gd, gp, _, D, (D1.out.onway OG.out hk BB2.out O2.out EX.out), rfl⟩, ?_⟩, ?_⟩
      · rintro j (rfl | rfl | rfl | hj)
        · exact .inl (.inl rfl)
        · exact .inl (.inr (.inl rfl))
        · exact .inl (.inr (.inr (.inl rfl)))
        · exact .inr (Nat.le_trans O1.out.size (O2.out.lt j hj).1)
      · exact ((O1.out.mono (T := PrB g gd gp x) (fun j _ e => .inl e)).trans (Only.of_below BB2.out (Nat.le_refl _))).setRow (.inl rfl) _
    | true =>
      rw [if_pos rfl, if_pos rfl]
      rw [hgo] at CF
      clear hgo
      have EX : Hid (lst (strB l) = l) := Lib.hid rfl
      go_enter Try.func72, Try.ntmps72
      go_upto_region 9 with (first
        | (go_at_call 93; refine C.out.mono ?_; rintro e w1' ⟨rfl, rfl⟩)
        | (go_at_call 92; refine CF.out.mono ?_; rintro e w1 ⟨rfl, ⟨x1, d1, q1, q2, q3⟩, o1⟩
           have D1 := Lib.hid d1
           have O1 := Lib.hid o1
           have Q1 := Lib.hid (And.intro q1 (And.intro q2 q3))
           have hgb1 : gb < w1.heap.size := Nat.lt_of_lt_of_le hgb o1.size
           obtain ⟨gb', ob', ea, _, _, hat1⟩ := (HB.out.only o1 (fun k hk hkg => hk (.inl hkg))).at_ (by omega)
           obtain ⟨rfl, rfl⟩ : gb = gb' ∧ ob = ob' := by simp only [Option.some.injEq, Addr.mk.injEq, and_true] at ea; exact ea
           have HB1 := Lib.hid hat1
           clear d1 o1 q1 q2 q3 ea hat1))
      have hLd : (Instr.loadAt 104 (.pointer (some ⟨gb, ob, none⟩))).run Try.prog w1.drew = .ok (.agg (cellsB l).toArray) w1.drew := by
        have HB2 : At512 w1.drew gb ob l := HB1.out
        simp only [Instr.loadAt, Instr.sureAddr, Sem.run_bind, Sem.run_pure, Result.andThen_ok, load_secB HB2 HLn.out]
      have hAr : ∀ W, (Instr.arrayAt 104 (.slice (some ⟨gb, ob, none⟩) 512 c)).run Try.prog W = .ok (.pointer (some ⟨gb, ob, none⟩)) W := by
        intro W
        unfold Instr.arrayAt
        simp [run_underlying Try.underlying104]
      have k1 := D1.out.pm
      have LDh := Lib.hid hLd
      have ARh := Lib.hid hAr
      clear hLd hAr
      go_still_tail 8, (by kernel_rfl)
      change wpStill _ _ w1.drew _ _ _
      refine wpStill_step (fun K hK => ?_)
      refine stillG rfl (ARh.out _) ?_
      refine hK _ ?_
      clear hK K
      refine wpStill_step (fun K hK => ?_)
      refine stillL rfl rfl LDh.out ?_
      refine hK _ ?_
      clear hK K
      refine wpStill_nil ?_
      change wpList _ _ _ _ _ w1.drew
      simp only [Act.put, List.setIfInBounds_toArray, List.set_cons_zero, List.set_cons_succ]
      obtain ⟨w4, h4⟩ : ∃ w4, w1.drew = w4 := ⟨_, rfl⟩
      rw [h4]
      have D4 : Hid (PrD w4 g gd gp n m.goM x1 D) := Lib.hid (h4 ▸ D1.out.drew)
      have O4 : Hid (Only (fun j => j = g) w w4) := Lib.hid (h4 ▸ O1.out.drew)
      clear h4 LDh ARh k1
      have hwr4 : m.goM.wrote < maxLen := by rw [HGW.out]; unfold maxLen; omega
      go_wp2_with (at_mapUpdate; refine wpList_mapUpdate_own w4 rfl (.tmp 34) (.tmp 35) (.tmp 38) 89 rfl 3 104 intK Try.underlying89 secElem gp m.goM.wrote D rfl D4.out.map hwr4 _ _ (kI k) rfl rfl (keyI (by omega)) (.lit (.string l)) [] (secElem_mk HLn.out) ?_; intro w5 own5 g5
                   have o5 := Only.grown g5
                   have b5 : w5.heap[g]? = some (.cells (pdC gd gp n m.goM x1) 93 (0, 0)) := (o5.block g (Array.getElem?_eq_some_iff.1 D4.out.blk).1 D4.out.d2).trans D4.out.blk
                   have k8 : w5.cell? ⟨g, 8, none⟩ = some (.int .i64 (m.wrote : Int)) := by rw [← HGW.out]; exact cell_of_row w5 g 8 _ _ (0, 0) b5
                   have f8 : w5.frozen? ⟨g, 8, none⟩ = false := frozen_of_row w5 g 8 _ _ b5
                   have OW5 := Lib.hid own5
                   have O5 := Lib.hid o5
                   clear own5 g5 o5 b5)
      go_ret
      refine ⟨rfl, ⟨_, ⟨gd, gp, x1, D.put (kI k) (.lit (.string l)), ?_, rfl⟩, fun j hj => .inl ?_⟩, ?_⟩
      · have := D4.out.stored (w' := w5) OG.out hk (s := strB l) HLn.out OW5.out O5.out
        rw [HGW.out] at this
        rw [HGW.out]
        exact this
      · obtain ⟨q1, q2, q3⟩ := Q1.out
        rcases hj with hj | hj | hj | hj
        · exact .inl hj
        · exact .inr (.inl hj)
        · exact .inr (.inr (.inl hj))
        · rw [q1, q2, q3] at hj
          exact .inr (.inr (.inr hj))
      · exact ((O4.out.mono (T := PrB g gd gp x) (fun j _ e => .inl e)).trans (O5.out.mono (T := PrB g gd gp x) (fun j _ e => .inr (.inr (.inl e))))).setCell (.inl rfl) _
  · -- it's refused ahead of the disk's own failure
    have e1 : m.writeE n i (strB l) = m.chk n i (strB l) := by unfold RM.writeE; rw [if_neg hc]
    have e2 : m.writeM n i (strB l) = m := by unfold RM.writeM; rw [if_neg hc]
    rw [e1, e2]
    by_cases hr : m.readE n i = 0
    · have h9 : m.chk n i (strB l) = 9 ∧ l.length ≠ 512 := by
        unfold RM.chk at hc ⊢
        unfold RM.readE at hr
        rw [strB_size] at hc ⊢
        split at hr
        · cases hr
        · rename_i h1
          rw [if_neg h1] at hc ⊢
          split at hr
          · cases hr
          · rename_i h2
            rw [if_neg h2] at hc ⊢
            split at hc
            · rename_i h3
              exact ⟨if_pos h3, h3⟩
            · exact absurd rfl hc
      obtain ⟨h9, hne⟩ := h9
      rw [h9] at SM ⊢
      rw [hr] at C
      have hq5 : ¬ (q : Int) = 512 := by omega
      clear e1 e2 hc h9 hr h ok hB CF hi hl hne
      go_enter Try.func72, Try.ntmps72
      go_wp2_with (go_at_call 93; refine C.out.mono ?_; rintro e w1' ⟨rfl, rfl⟩)
      go_ret
      exact SM.out
    · have h9 : m.chk n i (strB l) = m.readE n i := by
        unfold RM.chk RM.readE
        unfold RM.readE at hr
        split at hr
        · rename_i h1
          rw [if_pos h1, if_pos h1]
        · rename_i h1
          rw [if_neg h1, if_neg h1]
          split at hr
          · rename_i h2
            rw [if_pos h2, if_pos h2]
          · exact absurd rfl hr
      rw [h9] at SM ⊢
      obtain ⟨r, er⟩ : ∃ r, m.readE n i = r := ⟨_, rfl⟩
      rw [er] at SM C hr ⊢
      clear e1 e2 hc h9 er h ok hB CF hi hl
      go_enter Try.func72, Try.ntmps72
      go_wp2_with (go_at_call 93; refine C.out.mono ?_; rintro e w1' ⟨rfl, rfl⟩)
      go_ret
      exact SM.out
end
end Go.Proofs.Ytkbbpkbchniddaa
