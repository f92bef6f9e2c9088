/-
  Own work. The document's disk: Power.
-/
import Derived.Test.YtpnmcdpekfibjaaRwt
import Derived.Laws.Concat
namespace Go.Proofs.Ytpnmcdpekfibjaa
open Go.RowKit
set_option linter.unusedVariables false
set_option linter.unusedSimpArgs false

/-- Booleans that came in. -/
def HasBo (w : World) (B : Nat) (A : Option Addr) (n : Nat) (l : List Bool) : Prop :=
  n = l.length ∧ (0 < n → ∃ g o, A = some ⟨g, o, none⟩ ∧ g < B ∧ ∀ i b, l[i]? = some b → w.cell? ⟨g, o + i, none⟩ = some (.bool b))
theorem HasBo.only {S : Nat → Prop} {w w' : World} {B n : Nat} {A : Option Addr} {l : List Bool} (h : HasBo w B A n l) (ho : Only S w w') (hB : B ≤ w.heap.size) (hS : ∀ k, k < B → ¬ S k) : HasBo w' B A n l :=
  ⟨h.1, fun hn => by
    obtain ⟨g, o, e, hg, hc⟩ := h.2 hn
    refine ⟨g, o, e, hg, fun i b hb => ?_⟩
    rw [← hc i b hb]
    unfold World.cell?
    show (match w'.heap[g]? with | _ => _) = _
    rw [ho.block g (by omega) (hS g hg)]⟩

/-- Sector i behind a failure: kept or not, the k-th that waits. State: the disk, and how many have waited so far. -/
def RM.pwI (keep : List Bool) (p : RM × Nat) (i : Nat) : RM × Nat :=
  if (p.1.wait.getD i emp).size = 0 then p
  else ({ p.1 with last := if keep.getD p.2 false = true then p.1.last.set i (p.1.wait.getD i emp) else p.1.last, wait := p.1.wait.set i emp }, p.2 + 1)
def RM.pwK (m : RM) (keep : List Bool) (k : Nat) : RM × Nat := (List.range k).foldl (RM.pwI keep) (m, 0)
theorem RM.pwK_succ (m : RM) (keep : List Bool) (k : Nat) : m.pwK keep (k + 1) = RM.pwI keep (m.pwK keep k) k := by unfold RM.pwK; rw [List.range_succ, List.foldl_append]; rfl
theorem RM.Ok.pwI {p : RM × Nat} {n : Nat} (h : p.1.Ok n) (keep : List Bool) (i : Nat) : (RM.pwI keep p i).1.Ok n := by
  unfold RM.pwI
  split
  · exact h
  · rename_i hz
    by_cases hi : i < p.1.wait.length
    · have hm : p.1.wait.getD i emp ∈ p.1.wait := by
        rw [List.getD_eq_getElem?_getD, List.getElem?_eq_getElem hi]
        exact List.getElem_mem hi
      refine ⟨?_, by show (p.1.wait.set i emp).length = n; rw [List.length_set]; exact h.nw, h.n1, h.n2, fun s hs => ?_, fun s hs => ?_, h.pt, h.ar, h.wy, h.cm, h.wr, h.pw⟩
      · show (if _ then _ else _ : List ByteArray).length = n
        split
        · rw [List.length_set]; exact h.nl
        · exact h.nl
      · have hs2 : s ∈ (if keep.getD p.2 false = true then p.1.last.set i (p.1.wait.getD i emp) else p.1.last) := hs
        split at hs2
        · rcases List.mem_or_eq_of_mem_set hs2 with h2 | h2
          · exact h.ls s h2
          · rcases h.ws _ hm with h3 | h3
            · exact absurd h3 hz
            · exact h2 ▸ h3
        · exact h.ls s hs2
      · have hs2 : s ∈ p.1.wait.set i emp := hs
        rcases List.mem_or_eq_of_mem_set hs2 with h2 | h2
        · exact h.ws s h2
        · exact .inl (h2 ▸ rfl)
    · exfalso
      apply hz
      rw [List.getD_eq_getElem?_getD, List.getElem?_eq_none (by omega)]
      rfl
theorem RM.Ok.pwK {m : RM} {n : Nat} (h : m.Ok n) (keep : List Bool) (k : Nat) : (m.pwK keep k).1.Ok n := by
  induction k with
  | zero => exact h
  | succ k ih => rw [RM.pwK_succ]; exact ih.pwI keep k
theorem RM.pwK_le (m : RM) (keep : List Bool) (k : Nat) : (m.pwK keep k).2 ≤ k := by
  induction k with
  | zero => exact Nat.le_refl _
  | succ k ih =>
    rw [RM.pwK_succ]
    unfold RM.pwI
    split
    · omega
    · show (m.pwK keep k).2 + 1 ≤ k + 1
      omega
theorem RM.pwK_way (m : RM) (keep : List Bool) (k : Nat) : (m.pwK keep k).1.way = m.way ∧ (m.pwK keep k).1.coming = m.coming ∧ (m.pwK keep k).1.powers = m.powers := by
  induction k with
  | zero => exact ⟨rfl, rfl, rfl⟩
  | succ k ih =>
    rw [RM.pwK_succ]
    unfold RM.pwI
    split
    · exact ih
    · exact ih
/-- What a sector in flight becomes. -/
def torn (c s : ByteArray) : ByteArray := c ++ s.extract c.size s.size
def RM.flyM (m : RM) : RM := if 0 ≤ m.way then { m with last := m.last.set m.way.toNat (torn m.coming (m.last.getD m.way.toNat emp)) } else m
def RM.powerM (m : RM) (n : Nat) (keep : List Bool) : RM := let m1 := (m.pwK keep n).1.flyM; { m1 with off := false, arms := -1, way := -1, powers := m1.powers + 1 }

set_option maxRecDepth 100000 in
set_option maxHeartbeats 1000000 in
theorem rpower_any (w : World) (g gl gw n cl cw : Nat) (m : RM) (A : Option Addr) (q c : Nat) (keep : List Bool) (B : Nat) (h : RefD w g gl gw n cl cw m) (ok : m.Ok n) (hk : HasBo w B A q keep) (hB : B ≤ w.heap.size) (hS : ∀ k, k < B → ¬ RefB g gl gw k) (hq : q ≤ 1073741824) :
    Calls Try.prog 17 #[.pointer (some ⟨g, 0, none⟩), .slice A q c] w (RetDN w g gl gw n cl cw (m.powerM n keep)) := by
  have HR := Lib.hid h
  have OK := Lib.hid ok
  have HK := Lib.hid hk
  have n2 := ok.n2
  have n31 := h.d2
  have n32 : gw ≠ g := fun e => n31 e.symm
  have n33 := h.d1
  have n34 : gl ≠ g := fun e => n33 e.symm
  have n35 := h.d3
  have n36 : gw ≠ gl := fun e => n35 e.symm
  clear h ok hk
  go_enter Try.func17, Try.ntmps17
  go_wp2_with fail
  go_loopw [4, 5] (fun y x wr => ∃ k : Nat, k ≤ n ∧ x = .int .i64 (k : Int) ∧ y = .int .i64 (((m.pwK keep k).2 : Nat) : Int) ∧ RefD wr g gl gw n cl cw (m.pwK keep k).1 ∧ Only (RefB g gl gw) w wr) (fun _ x _ => n - (intOf x).toNat)
  case atStart => exact ⟨0, by omega, rfl, rfl, HR.out, Only.refl _ _⟩
  case round =>
    obtain ⟨k, hk, rfl, rfl, hD, hO⟩ := hrel
    have okk := OK.out.pwK keep k
    have hle := m.pwK_le keep k
    have hsu := m.pwK_succ keep k
    have hway := m.pwK_way keep k
    obtain ⟨M, hM⟩ : ∃ M, m.pwK keep k = M := ⟨_, rfl⟩
    rw [hM] at hD okk hle hsu hway ⊢
    obtain ⟨m1, y⟩ := M
    have k0 : wr.cell? ⟨g, 0, none⟩ = some (.slice (some ⟨gl, 0, none⟩) n cl) := hD.cell 0
    have k1 : wr.cell? ⟨g, 1, none⟩ = some (.slice (some ⟨gw, 0, none⟩) n cw) := hD.cell 1
    by_cases hlt : k < n
    · obtain ⟨s, hs⟩ : ∃ s, m1.wait[k]? = some s := ⟨_, List.getElem?_eq_getElem (by rw [okk.nw]; exact hlt)⟩
      obtain ⟨t, ht⟩ : ∃ t, m1.last[k]? = some t := ⟨_, List.getElem?_eq_getElem (by rw [okk.nl]; exact hlt)⟩
      have d1 := hD.rw.cell hs
      have d2 := hD.rl.cell ht
      have f1 := hD.rw.frozen k
      have f2 := hD.rl.frozen k
      have gs : m1.wait.getD k emp = s := by rw [List.getD_eq_getElem?_getD, hs]; rfl
      have HKK := HK.out.only hO hB hS
      have hy : y ≤ k := hle
      have SU := Lib.hid hsu
      have GS := Lib.hid gs
      have DD := Lib.hid hD
      have OO := Lib.hid hO
      clear hs ht gs hsu hD hO okk hway hM hle
      by_cases hz : s.size = 0
      · have q1 : s.toList = [] := (ba_empty s).2 hz
        have e : m.pwK keep (k + 1) = (m1, y) := by rw [SU.out]; unfold RM.pwI; rw [if_pos (by rw [GS.out]; exact hz)]
        have E := Lib.hid e
        clear e HKK
        go_wp2_with fail
        go_roundw
        case rel => exact ⟨k + 1, by omega, by go_num, by rw [E.out], by rw [E.out]; exact DD.out, OO.out⟩
        case measure => simp [intOf]; omega
      · have q1 : ¬ s.toList = [] := fun e => hz ((ba_empty s).1 e)
        have q2 : s.toList.isEmpty = false := by rw [List.isEmpty_eq_false_iff]; exact q1
        have e : m.pwK keep (k + 1) = ({ m1 with last := if keep.getD y false = true then m1.last.set k s else m1.last, wait := m1.wait.set k emp }, y + 1) := by rw [SU.out]; unfold RM.pwI; rw [if_neg (by rw [GS.out]; exact hz), GS.out]
        have E := Lib.hid e
        clear e
        by_cases hyq : y < q
        · obtain ⟨b, hb⟩ : ∃ b, keep[y]? = some b := ⟨_, List.getElem?_eq_getElem (by have := HK.out.1; omega)⟩
          obtain ⟨gk, ok0, rfl, _, hck⟩ := HKK.2 (by omega)
          have db := hck y b hb
          have gb : keep.getD y false = b := by rw [List.getD_eq_getElem?_getD, hb]; rfl
          have GB := Lib.hid gb
          clear hb hck gb HKK
          cases b with
          | true =>
            go_wp2_with fail
            go_region
            go_wp2_with fail
            go_roundw
            case rel => exact ⟨k + 1, by omega, by go_num, by rw [E.out]; go_num, by rw [E.out, GB.out]; exact ((DD.out.putL k s).drew).putW k emp, (((OO.out.setCell (.inr (.inl rfl)) _).drew).setCell (.inr (.inr rfl)) _)⟩
            case measure => simp [intOf]; omega
          | false =>
            go_wp2_with fail
            go_roundw
            case rel => exact ⟨k + 1, by omega, by go_num, by rw [E.out]; go_num, by rw [E.out, GB.out]; exact DD.out.putW k emp, OO.out.setCell (.inr (.inr rfl)) _⟩
            case measure => simp [intOf]; omega
        · have gb : keep.getD y false = false := by rw [List.getD_eq_getElem?_getD, List.getElem?_eq_none (by have := HK.out.1; omega)]; rfl
          have GB := Lib.hid gb
          clear gb HKK
          go_wp2_with fail
          go_roundw
          case rel => exact ⟨k + 1, by omega, by go_num, by rw [E.out]; go_num, by rw [E.out, GB.out]; exact DD.out.putW k emp, OO.out.setCell (.inr (.inr rfl)) _⟩
          case measure => simp [intOf]; omega
    · obtain rfl : k = n := by omega
      have okv := okk.wy
      have okc := okk.cm
      have okp := okk.pw
      have c2 : wr.cell? ⟨g, 2, none⟩ = some (.bool m1.off) := hD.cell 2
      have c3 : wr.cell? ⟨g, 3, none⟩ = some (.int .i64 m1.arms) := hD.cell 3
      have c5 : wr.cell? ⟨g, 5, none⟩ = some (.int .i64 m1.way) := hD.cell 5
      have c6 : wr.cell? ⟨g, 6, none⟩ = some (.string m1.coming) := hD.cell 6
      have c8 : wr.cell? ⟨g, 8, none⟩ = some (.int .i64 (m1.powers : Int)) := hD.cell 8
      have fz2 := hD.frozen 2
      have fz3 := hD.frozen 3
      have fz5 := hD.frozen 5
      have fz8 := hD.frozen 8
      have hpm : m.powerM k keep = { m1.flyM with off := false, arms := -1, way := -1, powers := m1.flyM.powers + 1 } := by unfold RM.powerM; rw [hM]
      have hfp : m1.flyM.powers = m1.powers := by unfold RM.flyM; split <;> rfl
      obtain ⟨v, hv⟩ : ∃ v, m1.way = v := ⟨_, rfl⟩
      obtain ⟨C, hC⟩ : ∃ C, m1.coming = C := ⟨_, rfl⟩
      obtain ⟨p, hp⟩ : ∃ p, m1.powers = p := ⟨_, rfl⟩
      rw [hv] at c5 okv
      rw [hC] at c6 okc
      rw [hp] at c8 okp hfp
      rw [hfp] at hpm
      have HPM := Lib.hid hpm
      have DD := Lib.hid hD
      have OO := Lib.hid hO
      have HV := Lib.hid hv
      have HC := Lib.hid hC
      have HP := Lib.hid hp
      obtain ⟨okv1, okv2⟩ := okv
      by_cases hneg : v < 0
      · have efl : m1.flyM = m1 := by unfold RM.flyM; rw [hv, if_neg (by omega)]
        have EFL := Lib.hid efl
        clear hpm hfp hv hC hp hsu hway hM hD hO okk efl
        go_wp2_with fail
        go_end0
        refine ⟨rfl, ?_, ((((OO.out.setCell (.inl rfl) _).setCell (.inl rfl) _).setCell (.inl rfl) _).setCell (.inl rfl) _)⟩
        rw [HPM.out, EFL.out]
        exact (((DD.out.put (m' := { m1 with off := false }) 2 (.bool false) rfl rfl rfl).put (m' := { m1 with off := false, arms := -1 }) 3 (.int .i64 (-1)) rfl rfl rfl).put (m' := { m1 with off := false, arms := -1, way := -1 }) 5 (.int .i64 (-1)) rfl rfl rfl).put 8 (.int .i64 ((p : Int) + 1)) rfl rfl rfl
      · obtain ⟨j, rfl⟩ : ∃ j : Nat, v = (j : Int) := ⟨v.toNat, by omega⟩
        have hj : j < k := by omega
        obtain ⟨t, ht⟩ : ∃ t, m1.last[j]? = some t := ⟨_, List.getElem?_eq_getElem (by rw [okk.nl]; exact hj)⟩
        have ht5 : t.size = 512 := okk.ls t (List.mem_of_getElem? ht)
        have dt := hD.rl.cell ht
        have ft := hD.rl.frozen j
        have gt : m1.last.getD j emp = t := by rw [List.getD_eq_getElem?_getD, ht]; rfl
        obtain ⟨X, hX⟩ : ∃ X, t.extract C.size 512 = X := ⟨_, rfl⟩
        have hXs : X.size ≤ 512 := by rw [← hX, ByteArray.size_extract]; omega
        have efl : m1.flyM = { m1 with last := m1.last.set j (C ++ X) } := by
          unfold RM.flyM
          rw [hv, if_pos (by omega), hC]
          rw [Int.toNat_natCast, gt]
          unfold torn
          rw [ht5, hX]
        have EFL := Lib.hid efl
        clear hpm hfp hv hC hp hsu hway hM hD hO okk efl ht gt
        go_wp2_with fail
        go_region
        go_wp2_with fail
        go_end0
        refine ⟨rfl, ?_, ((((((OO.out.setCell (.inr (.inl rfl)) _).setCell (.inl rfl) _).setCell (.inl rfl) _).setCell (.inl rfl) _).setCell (.inl rfl) _).drew)⟩
        rw [HPM.out, EFL.out]
        exact (((((DD.out.putL j (C ++ X)).put (m' := { m1 with last := m1.last.set j (C ++ X), off := false }) 2 (.bool false) rfl rfl rfl).put (m' := { m1 with last := m1.last.set j (C ++ X), off := false, arms := -1 }) 3 (.int .i64 (-1)) rfl rfl rfl).put (m' := { m1 with last := m1.last.set j (C ++ X), off := false, arms := -1, way := -1 }) 5 (.int .i64 (-1)) rfl rfl rfl).put (m' := { m1 with last := m1.last.set j (C ++ X), off := false, arms := -1, way := -1, powers := p + 1 }) 8 (.int .i64 ((p : Int) + 1)) rfl rfl rfl).drew
end Go.Proofs.Ytpnmcdpekfibjaa
