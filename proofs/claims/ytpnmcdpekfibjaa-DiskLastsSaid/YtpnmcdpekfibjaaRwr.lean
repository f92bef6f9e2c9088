/-
  Own work. The document's disk: Write.
-/
import Derived.Test.YtpnmcdpekfibjaaRe
namespace Go.Proofs.Ytpnmcdpekfibjaa
open Go.RowKit
set_option linter.unusedVariables false
set_option linter.unusedSimpArgs false

/-- What a write is checked for ahead of the disk's own failure; 0: nothing. -/
def RM.chk (m : RM) (n : Nat) (i : Int) (s : ByteArray) : Int := if m.off = true then 8 else if i < 0 ∨ (n : Int) ≤ i then 1 else if s.size ≠ 512 then 9 else 0
def RM.writeE (m : RM) (n : Nat) (i : Int) (s : ByteArray) : Int := if m.chk n i s = 0 then (if m.goB = true then 0 else 8) else m.chk n i s
def RM.writeM (m : RM) (n : Nat) (i : Int) (s : ByteArray) : RM :=
  if m.chk n i s = 0 then (if m.goB = true then { m.goM with wait := m.goM.wait.set i.toNat s, wrote := m.goM.wrote + 1 } else { m.goM with way := i, coming := s.extract 0 m.goM.part.toNat }) else m
theorem RM.Ok.write {m : RM} {n : Nat} (h : m.Ok n) (i : Int) (s : ByteArray) (hw : m.wrote < 1073741824) : (m.writeM n i s).Ok n := by
  have hg := h.go
  have hgw : m.goM.wrote = m.wrote := by unfold RM.goM; split <;> (try split) <;> rfl
  unfold RM.writeM
  split
  · rename_i hc
    have h1 : 0 ≤ i ∧ i < n ∧ s.size = 512 := by
      unfold RM.chk at hc
      split at hc
      · cases hc
      · split at hc
        · cases hc
        · split at hc
          · cases hc
          · rename_i h2 h3
            omega
    split
    · refine ⟨hg.nl, by rw [List.length_set]; exact hg.nw, hg.n1, hg.n2, hg.ls, fun t ht => ?_, hg.pt, hg.ar, hg.wy, hg.cm, by show m.goM.wrote + 1 ≤ _; rw [hgw]; omega, hg.pw⟩
      rcases List.mem_or_eq_of_mem_set ht with h2 | h2
      · exact hg.ws t h2
      · exact .inr (h2 ▸ h1.2.2)
    · refine ⟨hg.nl, hg.nw, hg.n1, hg.n2, hg.ls, hg.ws, hg.pt, hg.ar, ⟨by show -1 ≤ i; omega, h1.2.1⟩, ?_, hg.wr, hg.pw⟩
      show (s.extract 0 m.goM.part.toNat).size ≤ 512
      rw [ByteArray.size_extract]
      omega
  · exact h

set_option maxRecDepth 100000 in
set_option maxHeartbeats 1000000 in
theorem rwrite_any (w : World) (g gl gw n cl cw : Nat) (m : RM) (i : Int) (s : ByteArray) (h : RefD w g gl gw n cl cw m) (ok : m.Ok n) (hi : -9223372036854775808 ≤ i ∧ i ≤ 9223372036854775807) (hsz : s.size ≤ 1073741824) :
    Calls Try.prog 30 #[.pointer (some ⟨g, 0, none⟩), .int .i64 i, .string s] w (RetD w g gl gw n cl cw (.int .i64 (m.writeE n i s)) (m.writeM n i s)) := by
  have c0 : w.cell? ⟨g, 0, none⟩ = some (.slice (some ⟨gl, 0, none⟩) n cl) := h.cell 0
  have c2 : w.cell? ⟨g, 2, none⟩ = some (.bool m.off) := h.cell 2
  have CG := Lib.hid (rgoes_any w g gl gw n cl cw m h ok)
  have HR := Lib.hid h
  have OK := Lib.hid ok
  have OG := Lib.hid ok.go
  obtain ⟨i1, i2⟩ := hi
  have n2 := ok.n2
  obtain ⟨o, ho⟩ : ∃ o, m.off = o := ⟨_, rfl⟩
  rw [ho] at c2
  have HO := Lib.hid ho
  clear h ok ho
  by_cases hc : m.chk n i s = 0
  · have e1 : m.writeE n i s = if m.goB = true then 0 else 8 := by unfold RM.writeE; rw [if_pos hc]
    have e2 : m.writeM n i s = if m.goB = true then { m.goM with wait := m.goM.wait.set i.toNat s, wrote := m.goM.wrote + 1 } else { m.goM with way := i, coming := s.extract 0 m.goM.part.toNat } := by unfold RM.writeM; rw [if_pos hc]
    rw [e1, e2]
    have h1 : o = false ∧ 0 ≤ i ∧ i < n ∧ s.size = 512 := by
      unfold RM.chk at hc
      rw [HO.out] at hc
      split at hc
      · cases hc
      · rename_i h0
        split at hc
        · cases hc
        · split at hc
          · cases hc
          · rename_i h2 h3
            exact ⟨by simpa using h0, by omega⟩
    obtain ⟨rfl, h2, h3, h4⟩ := h1
    obtain ⟨j, rfl⟩ : ∃ j : Nat, i = (j : Int) := ⟨i.toNat, by omega⟩
    have hj : j < n := by omega
    clear e1 e2 hc
    obtain ⟨b, hb⟩ : ∃ b, m.goB = b := ⟨_, rfl⟩
    obtain ⟨M, hM⟩ : ∃ M, m.goM = M := ⟨_, rfl⟩
    have hO := OG.out
    rw [hM] at hO ⊢
    rw [hb]
    have CG2 := CG.out
    rw [hb, hM] at CG2
    have CG3 := Lib.hid CG2
    have OM := Lib.hid hO
    clear CG2 hb hM hO CG OG
    obtain ⟨x, hx⟩ : ∃ x, M.wait[j]? = some x := ⟨_, List.getElem?_eq_getElem (by rw [OM.out.nw]; exact hj)⟩
    have HX := Lib.hid hx
    have n31 := HR.out.d2
    have n32 : gw ≠ g := fun e => n31 e.symm
    have hwr := OM.out.wr
    obtain ⟨W, hW⟩ : ∃ W, M.wrote = W := ⟨_, rfl⟩
    rw [hW] at hwr
    have HW := Lib.hid hW
    obtain ⟨P, hP⟩ : ∃ P, M.part = P := ⟨_, rfl⟩
    have hpt := OM.out.pt
    rw [hP] at hpt
    obtain ⟨hp1, hp2⟩ := hpt
    have HP := Lib.hid hP
    clear hx hW hP
    cases b with
    | true =>
      rw [if_pos rfl, if_pos rfl]
      go_enter Try.func30, Try.ntmps30
      go_wp2_with (first
        | (go_at_call 47; refine CG3.out.mono ?_; rintro e w1 ⟨rfl, hd1, ho1⟩
           have k1 : w1.cell? ⟨g, 1, none⟩ = some (.slice (some ⟨gw, 0, none⟩) n cw) := hd1.cell 1
           have k7 : w1.cell? ⟨g, 7, none⟩ = some (.int .i64 (W : Int)) := by rw [← HW.out]; exact hd1.cell 7
           have f7 := hd1.frozen 7
           have kx := hd1.rw.cell HX.out
           have fx := hd1.rw.frozen j
           have D1 := Lib.hid hd1
           have O1 := Lib.hid ho1
           clear hd1 ho1))
      go_ret
      exact ⟨rfl, (D1.out.putW j s).put 7 (.int .i64 ((W : Int) + 1)) (m' := { M with wait := M.wait.set j s, wrote := M.wrote + 1 }) (by rw [HW.out]; rfl) rfl rfl, (O1.out.setCell (.inr (.inr rfl)) _).setCell (.inl rfl) _⟩
    | false =>
      rw [if_neg (by decide), if_neg (by decide)]
      go_enter Try.func30, Try.ntmps30
      go_upto_region 8 with (first
        | (go_at_call 47; refine CG3.out.mono ?_; rintro e w1 ⟨rfl, hd1, ho1⟩
           have k4 : w1.cell? ⟨g, 4, none⟩ = some (.int .i64 P) := by rw [← HP.out]; exact hd1.cell 4
           have k5 : w1.cell? ⟨g, 5, none⟩ = some (.int .i64 M.way) := hd1.cell 5
           have k6 : w1.cell? ⟨g, 6, none⟩ = some (.string M.coming) := hd1.cell 6
           have f5 := hd1.frozen 5
           have f6 := hd1.frozen 6
           have D1 := Lib.hid hd1
           have O1 := Lib.hid ho1
           clear hd1 ho1))
      go_region
      all_goals go_wp2_with fail
      all_goals go_ret
      exact ⟨rfl, ((D1.out.put (m' := { M with way := (j : Int) }) 5 (.int .i64 (j : Int)) rfl rfl rfl).put (m' := { M with way := (j : Int), coming := s.extract 0 M.part.toNat }) 6 (.string (s.extract 0 P.toNat)) (by rw [HP.out]; rfl) rfl rfl).drew, ((O1.out.setCell (.inl rfl) _).setCell (.inl rfl) _).drew⟩
  · have e1 : m.writeE n i s = m.chk n i s := by unfold RM.writeE; rw [if_neg hc]
    have e2 : m.writeM n i s = m := by unfold RM.writeM; rw [if_neg hc]
    rw [e1, e2]
    clear e1 e2 CG OG
    cases o with
    | true =>
      have e : m.chk n i s = 8 := by unfold RM.chk; rw [if_pos HO.out]
      rw [e]
      go_enter Try.func30, Try.ntmps30
      go_wp2_with fail
      go_ret
      exact ⟨rfl, HR.out, Only.refl _ _⟩
    | false =>
      have h0 : ¬ m.off = true := by rw [HO.out]; decide
      have H0 := Lib.hid h0
      clear h0
      by_cases hneg : i < 0
      · have e : m.chk n i s = 1 := by unfold RM.chk; rw [if_neg H0.out, if_pos (.inl hneg)]
        rw [e]
        go_enter Try.func30, Try.ntmps30
        go_wp2_with fail
        go_ret
        exact ⟨rfl, HR.out, Only.refl _ _⟩
      · by_cases hbig : (n : Int) ≤ i
        · have e : m.chk n i s = 1 := by unfold RM.chk; rw [if_neg H0.out, if_pos (.inr hbig)]
          rw [e]
          go_enter Try.func30, Try.ntmps30
          go_wp2_with fail
          go_ret
          exact ⟨rfl, HR.out, Only.refl _ _⟩
        · have hz : ¬ s.size = 512 := by
            intro hz
            apply hc
            unfold RM.chk
            rw [if_neg H0.out, if_neg (by omega), if_neg (by omega)]
          have hz2 : ¬ (s.size : Int) = 512 := by omega
          have e : m.chk n i s = 9 := by unfold RM.chk; rw [if_neg H0.out, if_neg (by omega), if_pos hz]
          rw [e]
          go_enter Try.func30, Try.ntmps30
          go_wp2_with fail
          go_ret
          exact ⟨rfl, HR.out, Only.refl _ _⟩
end Go.Proofs.Ytpnmcdpekfibjaa
