/-
  Own work. The document's disk: Flush and Waiting.
-/
import Derived.Test.YtpnmcdpekfibjaaRwr
namespace Go.Proofs.Ytpnmcdpekfibjaa
open Go.RowKit
set_option linter.unusedVariables false
set_option linter.unusedSimpArgs false

def emp : ByteArray := ⟨#[]⟩
/-- Sector i goes from waiting to lasting. -/
def RM.flI (m : RM) (i : Nat) : RM := if (m.wait.getD i emp).size = 0 then m else { m with last := m.last.set i (m.wait.getD i emp), wait := m.wait.set i emp }
def RM.flK (m : RM) (k : Nat) : RM := (List.range k).foldl RM.flI m
theorem RM.flK_succ (m : RM) (k : Nat) : m.flK (k + 1) = (m.flK k).flI k := by unfold RM.flK; rw [List.range_succ, List.foldl_append]; rfl
theorem RM.Ok.flI {m : RM} {n : Nat} (h : m.Ok n) (i : Nat) : (m.flI i).Ok n := by
  unfold RM.flI
  split
  · exact h
  · rename_i hz
    by_cases hi : i < m.wait.length
    · have hm : m.wait.getD i emp ∈ m.wait := by
        rw [List.getD_eq_getElem?_getD, List.getElem?_eq_getElem hi]
        exact List.getElem_mem hi
      refine ⟨by rw [List.length_set]; exact h.nl, by rw [List.length_set]; exact h.nw, h.n1, h.n2, fun s hs => ?_, fun s hs => ?_, h.pt, h.ar, h.wy, h.cm, h.wr, h.pw⟩
      · rcases List.mem_or_eq_of_mem_set hs with h2 | h2
        · exact h.ls s h2
        · rcases h.ws _ hm with h3 | h3
          · exact absurd h3 hz
          · exact h2 ▸ h3
      · rcases List.mem_or_eq_of_mem_set hs with h2 | h2
        · exact h.ws s h2
        · exact .inl (h2 ▸ rfl)
    · exfalso
      apply hz
      rw [List.getD_eq_getElem?_getD, List.getElem?_eq_none (by omega)]
      rfl
theorem RM.Ok.flK {m : RM} {n : Nat} (h : m.Ok n) (k : Nat) : (m.flK k).Ok n := by
  induction k with
  | zero => exact h
  | succ k ih => rw [RM.flK_succ]; exact ih.flI k
def RM.flushE (m : RM) : Int := if m.off = true then 8 else if m.goB = true then 0 else 8
def RM.flushM (m : RM) (n : Nat) : RM := if m.off = true then m else if m.goB = true then m.goM.flK n else m.goM
theorem RM.Ok.flush {m : RM} {n : Nat} (h : m.Ok n) : (m.flushM n).Ok n := by
  unfold RM.flushM
  split
  · exact h
  · split
    · exact h.go.flK n
    · exact h.go

set_option maxRecDepth 100000 in
set_option maxHeartbeats 1000000 in
theorem rflush_any (w : World) (g gl gw n cl cw : Nat) (m : RM) (h : RefD w g gl gw n cl cw m) (ok : m.Ok n) :
    Calls Try.prog 34 #[.pointer (some ⟨g, 0, none⟩)] w (RetD w g gl gw n cl cw (.int .i64 m.flushE) (m.flushM n)) := by
  have c2 : w.cell? ⟨g, 2, none⟩ = some (.bool m.off) := h.cell 2
  have cg := rgoes_any w g gl gw n cl cw m h ok
  have HR := Lib.hid h
  have OG := Lib.hid ok.go
  have n2 := ok.n2
  obtain ⟨o, ho⟩ : ∃ o, m.off = o := ⟨_, rfl⟩
  rw [ho] at c2
  obtain ⟨b, hb⟩ : ∃ b, m.goB = b := ⟨_, rfl⟩
  obtain ⟨M, hM⟩ : ∃ M, m.goM = M := ⟨_, rfl⟩
  have hOG := OG.out
  rw [hM] at hOG
  have OM := Lib.hid hOG
  have e1 : m.flushE = if o = true then 8 else if b = true then 0 else 8 := by unfold RM.flushE; rw [ho, hb]
  have e2 : m.flushM n = if o = true then m else if b = true then M.flK n else M := by unfold RM.flushM; rw [ho, hb, hM]
  rw [e1, e2]
  rw [hb, hM] at cg
  have CG := Lib.hid cg
  clear h ok ho cg hb hM hOG e1 e2 OG
  cases o with
  | true =>
    rw [if_pos (show true = true from rfl), if_pos (show true = true from rfl)]
    go_enter Try.func34, Try.ntmps34
    go_wp2_with fail
    go_ret
    exact ⟨rfl, HR.out, Only.refl _ _⟩
  | false =>
    rw [if_neg (show ¬ (false = true) by decide), if_neg (show ¬ (false = true) by decide)]
    cases b with
    | false =>
      rw [if_neg (show ¬ (false = true) by decide), if_neg (show ¬ (false = true) by decide)]
      go_enter Try.func34, Try.ntmps34
      go_wp2_with (first
        | (go_at_call 47; refine CG.out.mono ?_; rintro e w1 ⟨rfl, hd1, ho1⟩
           have D1 := Lib.hid hd1
           have O1 := Lib.hid ho1
           clear hd1 ho1))
      go_ret
      exact ⟨rfl, D1.out, O1.out⟩
    | true =>
      rw [if_pos (show true = true from rfl), if_pos (show true = true from rfl)]
      go_enter Try.func34, Try.ntmps34
      go_wp2_with (first
        | (go_at_call 47; refine CG.out.mono ?_; rintro e w1 ⟨rfl, hd1, ho1⟩
           have D1 := Lib.hid hd1
           have O1 := Lib.hid ho1
           clear hd1 ho1))
      go_loopw [3] (fun x wr => ∃ k : Nat, k ≤ n ∧ x = .int .i64 (k : Int) ∧ RefD wr g gl gw n cl cw (M.flK k) ∧ Only (RefB g gl gw) w wr) (fun x _ => n - (intOf x).toNat)
      case atStart => exact ⟨0, by omega, rfl, D1.out, O1.out⟩
      case round =>
        obtain ⟨k, hk, rfl, hD, hO⟩ := hrel
        have okk := OM.out.flK k
        have k0 : wr.cell? ⟨g, 0, none⟩ = some (.slice (some ⟨gl, 0, none⟩) n cl) := hD.cell 0
        have k1 : wr.cell? ⟨g, 1, none⟩ = some (.slice (some ⟨gw, 0, none⟩) n cw) := hD.cell 1
        have n31 := HR.out.d2
        have n32 : gw ≠ g := fun e => n31 e.symm
        have n33 := HR.out.d1
        have n34 : gl ≠ g := fun e => n33 e.symm
        have n35 := HR.out.d3
        have n36 : gw ≠ gl := fun e => n35 e.symm
        by_cases hlt : k < n
        · obtain ⟨s, hs⟩ : ∃ s, (M.flK k).wait[k]? = some s := ⟨_, List.getElem?_eq_getElem (by rw [okk.nw]; exact hlt)⟩
          obtain ⟨t, ht⟩ : ∃ t, (M.flK k).last[k]? = some t := ⟨_, List.getElem?_eq_getElem (by rw [okk.nl]; exact hlt)⟩
          have d1 := hD.rw.cell hs
          have d2 := hD.rl.cell ht
          have f1 := hD.rw.frozen k
          have f2 := hD.rl.frozen k
          have gs : (M.flK k).wait.getD k emp = s := by rw [List.getD_eq_getElem?_getD, hs]; rfl
          have ef : (M.flK k).flI k = if s.size = 0 then M.flK k else { M.flK k with last := (M.flK k).last.set k s, wait := (M.flK k).wait.set k emp } := by unfold RM.flI; rw [gs]
          have EF := Lib.hid ef
          have DD := Lib.hid hD
          have OO := Lib.hid hO
          clear hs ht gs ef hD hO okk
          by_cases hz : s.size = 0
          · have q1 : s.toList = [] := (ba_empty s).2 hz
            go_wp2_with fail
            go_roundw
            case rel => exact ⟨k + 1, by omega, by go_num, by rw [RM.flK_succ, EF.out, if_pos hz]; exact DD.out, OO.out⟩
            case measure => simp [intOf]; omega
          · have q1 : ¬ s.toList = [] := fun e => hz ((ba_empty s).1 e)
            have q2 : s.toList.isEmpty = false := by rw [List.isEmpty_eq_false_iff]; exact q1
            go_wp2_with fail
            go_region
            go_wp2_with fail
            go_roundw
            case rel => exact ⟨k + 1, by omega, by go_num, by rw [RM.flK_succ, EF.out, if_neg hz]; exact ((DD.out.putL k s).putW k emp).drew, ((OO.out.setCell (.inr (.inl rfl)) _).setCell (.inr (.inr rfl)) _).drew⟩
            case measure => simp [intOf]; omega
        · obtain rfl : k = n := by omega
          have DD := Lib.hid hD
          have OO := Lib.hid hO
          clear hD hO okk
          go_wp2_with fail
          go_ret
          exact ⟨rfl, DD.out, OO.out⟩
end Go.Proofs.Ytpnmcdpekfibjaa
