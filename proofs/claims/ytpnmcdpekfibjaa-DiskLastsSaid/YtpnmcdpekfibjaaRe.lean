/-
  Own work. The document's disk: Arm, Read and Write.
-/
import Derived.Test.YtpnmcdpekfibjaaRd
namespace Go.Proofs.Ytpnmcdpekfibjaa
open Go.RowKit
set_option linter.unusedVariables false
set_option linter.unusedSimpArgs false

def RM.armM (m : RM) (a p : Int) : RM := { m with arms := if a < 0 then -1 else a, part := if p < 0 then 0 else if 512 < p then 512 else p }
theorem RM.Ok.arm {m : RM} {n : Nat} (h : m.Ok n) (a p : Int) (ha : a ≤ 9223372036854775807) : (m.armM a p).Ok n := by
  refine ⟨h.nl, h.nw, h.n1, h.n2, h.ls, h.ws, ?_, ?_, h.wy, h.cm, h.wr, h.pw⟩
  · show 0 ≤ (if p < 0 then 0 else if 512 < p then 512 else p) ∧ (if p < 0 then 0 else if 512 < p then 512 else p) ≤ 512
    split
    · omega
    · split <;> omega
  · show -1 ≤ (if a < 0 then -1 else a) ∧ (if a < 0 then -1 else a) ≤ 9223372036854775807
    split <;> omega
def RetDN (w : World) (g gl gw n cl cw : Nat) (m : RM) (e : Ending) (w' : World) : Prop := e = .returned (.tuple #[]) ∧ RefD w' g gl gw n cl cw m ∧ Only (RefB g gl gw) w w'

set_option maxRecDepth 100000 in
theorem rarm_any (w : World) (g gl gw n cl cw : Nat) (m : RM) (a p : Int) (h : RefD w g gl gw n cl cw m) :
    Calls Try.prog 35 #[.pointer (some ⟨g, 0, none⟩), .int .i64 a, .int .i64 p] w (RetDN w g gl gw n cl cw (m.armM a p)) := by
  have f3 := h.frozen 3
  have f4 := h.frozen 4
  have H := Lib.hid h
  have c3 : w.cell? ⟨g, 3, none⟩ = some (.int .i64 m.arms) := h.cell 3
  have c4 : w.cell? ⟨g, 4, none⟩ = some (.int .i64 m.part) := h.cell 4
  clear h
  have P0 := Lib.hid ((H.out.put (m' := { m with arms := a }) 3 (.int .i64 a) rfl rfl rfl).put (m' := { m with arms := a, part := p }) 4 (.int .i64 p) rfl rfl rfl)
  by_cases ha : a < 0
  · by_cases hp : p < 0
    · have hq : ¬ 512 < p := by omega
      have e : m.armM a p = { m with arms := -1, part := 0 } := by unfold RM.armM; rw [if_pos ha, if_pos hp]
      rw [e]
      clear e
      go_enter Try.func35, Try.ntmps35
      go_wp2_with fail
      go_end0
      exact ⟨rfl, ((P0.out.put (m' := { m with arms := -1, part := p }) 3 (.int .i64 (-1)) rfl rfl rfl).put (m' := { m with arms := -1, part := 0 }) 4 (.int .i64 0) rfl rfl rfl), (((((Only.refl _ _).setCell (.inl rfl) _).setCell (.inl rfl) _).setCell (.inl rfl) _).setCell (.inl rfl) _)⟩
    · by_cases hq : 512 < p
      · have e : m.armM a p = { m with arms := -1, part := 512 } := by unfold RM.armM; rw [if_pos ha, if_neg hp, if_pos hq]
        rw [e]
        clear e
        go_enter Try.func35, Try.ntmps35
        go_wp2_with fail
        go_end0
        exact ⟨rfl, ((P0.out.put (m' := { m with arms := -1, part := p }) 3 (.int .i64 (-1)) rfl rfl rfl).put (m' := { m with arms := -1, part := 512 }) 4 (.int .i64 512) rfl rfl rfl), (((((Only.refl _ _).setCell (.inl rfl) _).setCell (.inl rfl) _).setCell (.inl rfl) _).setCell (.inl rfl) _)⟩
      · have e : m.armM a p = { m with arms := -1, part := p } := by unfold RM.armM; rw [if_pos ha, if_neg hp, if_neg hq]
        rw [e]
        clear e
        go_enter Try.func35, Try.ntmps35
        go_wp2_with fail
        go_end0
        exact ⟨rfl, (P0.out.put (m' := { m with arms := -1, part := p }) 3 (.int .i64 (-1)) rfl rfl rfl), ((((Only.refl _ _).setCell (.inl rfl) _).setCell (.inl rfl) _).setCell (.inl rfl) _)⟩
  · by_cases hp : p < 0
    · have hq : ¬ 512 < p := by omega
      have e : m.armM a p = { m with arms := a, part := 0 } := by unfold RM.armM; rw [if_neg ha, if_pos hp]
      rw [e]
      clear e
      go_enter Try.func35, Try.ntmps35
      go_wp2_with fail
      go_end0
      exact ⟨rfl, (P0.out.put (m' := { m with arms := a, part := 0 }) 4 (.int .i64 0) rfl rfl rfl), ((((Only.refl _ _).setCell (.inl rfl) _).setCell (.inl rfl) _).setCell (.inl rfl) _)⟩
    · by_cases hq : 512 < p
      · have e : m.armM a p = { m with arms := a, part := 512 } := by unfold RM.armM; rw [if_neg ha, if_neg hp, if_pos hq]
        rw [e]
        clear e
        go_enter Try.func35, Try.ntmps35
        go_wp2_with fail
        go_end0
        exact ⟨rfl, (P0.out.put (m' := { m with arms := a, part := 512 }) 4 (.int .i64 512) rfl rfl rfl), ((((Only.refl _ _).setCell (.inl rfl) _).setCell (.inl rfl) _).setCell (.inl rfl) _)⟩
      · have e : m.armM a p = { m with arms := a, part := p } := by unfold RM.armM; rw [if_neg ha, if_neg hp, if_neg hq]
        rw [e]
        clear e
        go_enter Try.func35, Try.ntmps35
        go_wp2_with fail
        go_end0
        exact ⟨rfl, P0.out, (((Only.refl _ _).setCell (.inl rfl) _).setCell (.inl rfl) _)⟩

/-! ### Read -/
def RM.readE (m : RM) (n : Nat) (i : Int) : Int := if m.off = true then 8 else if i < 0 ∨ (n : Int) ≤ i then 1 else 0
def RM.at_ (m : RM) (i : Nat) : ByteArray := if (m.wait.getD i ⟨#[]⟩).size = 0 then m.last.getD i ⟨#[]⟩ else m.wait.getD i ⟨#[]⟩
def RM.readS (m : RM) (n : Nat) (i : Int) : ByteArray := if m.readE n i = 0 then m.at_ i.toNat else ⟨#[]⟩
theorem ba_empty (s : ByteArray) : s.toList = [] ↔ s.size = 0 := by
  obtain ⟨d⟩ := s
  constructor
  · intro h
    have : (⟨d⟩ : ByteArray).toList = d.toList := by cases d; simp
    rw [this] at h
    show d.size = 0
    rw [← Array.length_toList, h]
    rfl
  · intro h
    have : (⟨d⟩ : ByteArray).toList = d.toList := by cases d; simp
    rw [this]
    exact List.eq_nil_of_length_eq_zero (by rw [Array.length_toList]; exact h)

set_option maxRecDepth 100000 in
set_option maxHeartbeats 1000000 in
theorem rread_any (w : World) (g gl gw n cl cw : Nat) (m : RM) (i : Int) (h : RefD w g gl gw n cl cw m) (ok : m.Ok n) (hi : -9223372036854775808 ≤ i ∧ i ≤ 9223372036854775807) :
    Calls Try.prog 36 #[.pointer (some ⟨g, 0, none⟩), .int .i64 i] w fun e w' => e = .returned (.tuple #[.string (m.readS n i), .int .i64 (m.readE n i)]) ∧ w = w' := by
  have c0 : w.cell? ⟨g, 0, none⟩ = some (.slice (some ⟨gl, 0, none⟩) n cl) := h.cell 0
  have c1 : w.cell? ⟨g, 1, none⟩ = some (.slice (some ⟨gw, 0, none⟩) n cw) := h.cell 1
  have c2 : w.cell? ⟨g, 2, none⟩ = some (.bool m.off) := h.cell 2
  have HR := Lib.hid h
  have OK := Lib.hid ok
  obtain ⟨i1, i2⟩ := hi
  have n2 := ok.n2
  obtain ⟨o, ho⟩ : ∃ o, m.off = o := ⟨_, rfl⟩
  rw [ho] at c2
  have HO := Lib.hid ho
  clear h ok ho
  cases o with
  | true =>
    have e1 : m.readE n i = 8 := by unfold RM.readE; rw [if_pos HO.out]
    have e2 : m.readS n i = ⟨#[]⟩ := by unfold RM.readS; rw [e1, if_neg (by decide)]
    rw [e1, e2]
    go_enter Try.func36, Try.ntmps36
    go_wp2_with fail
    go_ret2
    exact ⟨rfl, rfl⟩
  | false =>
    by_cases hneg : i < 0
    · have e1 : m.readE n i = 1 := by unfold RM.readE; rw [if_neg (by rw [HO.out]; decide), if_pos (.inl hneg)]
      have e2 : m.readS n i = ⟨#[]⟩ := by unfold RM.readS; rw [e1, if_neg (by decide)]
      rw [e1, e2]
      go_enter Try.func36, Try.ntmps36
      go_wp2_with fail
      go_ret2
      exact ⟨rfl, rfl⟩
    · by_cases hbig : (n : Int) ≤ i
      · have e1 : m.readE n i = 1 := by unfold RM.readE; rw [if_neg (by rw [HO.out]; decide), if_pos (.inr hbig)]
        have e2 : m.readS n i = ⟨#[]⟩ := by unfold RM.readS; rw [e1, if_neg (by decide)]
        rw [e1, e2]
        go_enter Try.func36, Try.ntmps36
        go_wp2_with fail
        go_ret2
        exact ⟨rfl, rfl⟩
      · obtain ⟨j, rfl⟩ : ∃ j : Nat, i = (j : Int) := ⟨i.toNat, by omega⟩
        have hj : j < n := by omega
        have e1 : m.readE n j = 0 := by unfold RM.readE; rw [if_neg (by rw [HO.out]; decide), if_neg (by omega)]
        have e2 : m.readS n j = m.at_ j := by unfold RM.readS; rw [e1, if_pos rfl]; rfl
        rw [e1, e2]
        obtain ⟨s, hs⟩ : ∃ s, m.wait[j]? = some s := ⟨_, List.getElem?_eq_getElem (by rw [OK.out.nw]; exact hj)⟩
        obtain ⟨t, ht⟩ : ∃ t, m.last[j]? = some t := ⟨_, List.getElem?_eq_getElem (by rw [OK.out.nl]; exact hj)⟩
        have d1 := HR.out.rw.cell hs
        have d2 := HR.out.rl.cell ht
        have g1 : m.wait.getD j ⟨#[]⟩ = s := by rw [List.getD_eq_getElem?_getD, hs]; rfl
        have g2 : m.last.getD j ⟨#[]⟩ = t := by rw [List.getD_eq_getElem?_getD, ht]; rfl
        have e3 : m.at_ j = if s.size = 0 then t else s := by unfold RM.at_; rw [g1, g2]
        rw [e3]
        clear e1 e2 e3 hs ht g1 g2 hbig hneg
        by_cases hz : s.size = 0
        · have q1 : s.toList = [] := (ba_empty s).2 hz
          rw [if_pos hz]
          go_enter Try.func36, Try.ntmps36
          go_wp2_with fail
          go_ret2
          exact ⟨rfl, rfl⟩
        · have q1 : ¬ s.toList = [] := fun e => hz ((ba_empty s).1 e)
          have q2 : s.toList.isEmpty = false := by rw [List.isEmpty_eq_false_iff]; exact q1
          rw [if_neg hz]
          go_enter Try.func36, Try.ntmps36
          go_wp2_with fail
          go_ret2
          exact ⟨rfl, rfl⟩
end Go.Proofs.Ytpnmcdpekfibjaa
