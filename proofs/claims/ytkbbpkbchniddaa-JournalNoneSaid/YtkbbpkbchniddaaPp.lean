/-
  Own work. The program's disk: Power.
-/
import Derived.Test.YtkbbpkbchniddaaPp0
namespace Go.Proofs.Ytkbbpkbchniddaa
open Go.RowKit Go.Maps
set_option linter.unusedVariables false
set_option linter.unusedSimpArgs false

section
variable {S : Nat → Prop} {w w' : World} {g gd gp n : Nat} {m m' : RM} {x x' : PX} {D : DU}
/-- Power's loop. -/
structure PwS (w wr : World) (g gd gp n : Nat) (m : RM) (x : PX) (D : DU) (B : Option Addr) (p d : Nat) (A : Option Addr) (q : Nat) (keep : List Bool) (j : Nat) : Prop where
  dk : PrD wr g gd gp n { m with last := mix m n (pwF m keep j) } x D
  own : OwnV 3 wr w.heap.size (.slice B p d) (ints (m.wtK n))
  kp : HasNo wr (PrB g gd gp x) A q keep
  o : Only (PrB g gd gp x) w wr
theorem PwS.drew {wr : World} {B : Option Addr} {p d : Nat} {A : Option Addr} {q : Nat} {keep : List Bool} {j : Nat} (h : PwS w wr g gd gp n m x D B p d A q keep j) : PwS w wr.drew g gd gp n m x D B p d A q keep j := ⟨h.dk.drew, h.own.drew, h.kp, h.o.drew⟩
theorem sizeU8p : (Try.prog.info? 5).map (·.size) = some 1 := by kernel_rfl
theorem tear0_ones : ∀ v ∈ (#[Value.int .i64 0, .slice none 0 0] : Array Value).toList, v.oneCell' = true := tear_ones _ _ _ _
theorem builtTear0 : Try.prog.built 91 [] = some #[.int .i64 0, .slice none 0 0] := by kernel_rfl
/-- The power is back. -/
theorem PrD.back (h : PrD w g gd gp n m x D) {w' : World} (ho : Only (fun j => j = g) w w') (hb : w'.heap[g]? = some (.cells (pdC gd gp n { m with off := false, arms := -1, way := -1, powers := m.powers + 1 } { x with sc := 0, TA := none, tn := 0, tc := 0, tl := [] }) 93 (0, 0))) :
    PrD w' g gd gp n { m with off := false, arms := -1, way := -1, powers := m.powers + 1 } { x with sc := 0, TA := none, tn := 0, tc := 0, tl := [] } D :=
  ⟨hb, (ho.block gd h.row.lt (fun e => h.d1 e.symm)).trans h.row, ownsMap_only h.map ho (fun e => h.d2 e.symm), h.mo, OwnB.nil _ _, fun h0 => absurd h0 (by show ¬ (0 : Int) ≤ -1; omega), ⟨fun _ => ⟨rfl, rfl⟩, fun h0 => absurd h0 (by show ¬ (0 : Int) ≤ -1; omega)⟩, h.d1, h.d2, h.d3, fun k hk => by cases hk⟩
set_option maxRecDepth 100000 in
theorem lookS_run {W : World} (h : PrD W g gd gp n m x D) (ok : m.Ok n) {k : Nat} (hk : k < n) : (Instr.lookup 89 (.map (some gp)) (.int .i64 (k : Int)) false).run Try.prog W = .ok (.agg (cellsB (pendL m k)).toArray) W := by
  have n2 := ok.n2
  obtain ⟨v, ps, hrun, hv⟩ := h.map.lookup intK Try.underlying89 (zeroSecRun W) (secElem_mk (zer_len 512)) (keyI (i := k) (by omega))
  obtain ⟨l, rfl, hl, e⟩ := secElem_inv hv
  rw [Prod.mk.injEq] at e
  have e1 := e.1
  have el : l = pendL m k := by
    unfold pendL
    by_cases h0 : (m.wait.getD k emp).size = 0
    · rw [if_pos h0]
      rw [h.mo.no hk h0] at e1
      injection e1 with e1
      injection e1 with e1
      exact e1.symm
    · rw [if_neg h0]
      rw [h.mo.at_ k hk h0] at e1
      injection e1 with e1
      injection e1 with e1
      exact e1.symm
  subst el
  exact hrun
theorem stillLk {P : Program} {o : Oper} {a : Act} {w : World} {K : Act → Prop} {ty : TypeId} {mo xo : Operand} (ho : o.op = .lookup ty mo xo false) {M X : Value} (hm : a.eval mo = M) (hx : a.eval xo = X) {v : Value} (hr : (Instr.lookup ty M X false).run P w = .ok v w) (h : K (a.put o.dst v)) : o.still P a w K := by
  unfold Oper.still execOp
  simp only [ho, hm, hx, Sem.run_bind, Sem.run_pure, Result.andThen_ok, hr]
  exact ⟨rfl, h⟩

set_option maxRecDepth 100000 in
set_option maxHeartbeats 4000000 in
theorem ppower (A : Option Addr) (q c : Nat) (keep : List Bool) (h : PrD w g gd gp n m x D) (ok : m.Ok n) (hpw : m.powers < 1073741824) (hk : HasNo w (PrB g gd gp x) A q keep) (hqc : q ≤ c) (hq : q ≤ 1073741824) :
    Calls Try.prog 25 #[.pointer (some ⟨g, 0, none⟩), .slice A q c] w (Left2 PD w g (PrB g gd gp x) n (.tuple #[]) (m.powerM n keep)) := by
  have N := Lib.hid (pnone_any h ok)
  have CW := Lib.hid (pwaiting h ok)
  have OK := Lib.hid ok
  have n2 := ok.n2
  have HLT := Lib.hid h.lt
  have H := Lib.hid h
  have HK := Lib.hid hk
  have hql := hk.1
  have hwl : (m.wtK n).length ≤ n := m.wtK_len n
  obtain ⟨Wt, hE, hW0⟩ := pw_end m n ok keep
  have EE := Lib.hid hE
  have W0 := Lib.hid hW0
  have okE := ok.pwK keep n
  rw [hE] at okE
  have OE := Lib.hid okE
  obtain ⟨p, hp⟩ : ∃ p, (m.wtK n).length = p := ⟨_, rfl⟩
  have HP := Lib.hid hp
  rw [hp] at hwl
  have HPW := Lib.hid hpw
  clear h ok hk hE hW0 okE hp hpw
  go_enter Try.func25, Try.ntmps25
  go_wp2_with (first
    | (go_at_call 55; refine N.out.mono ?_; rintro e w1' ⟨rfl, rfl⟩)
    | (go_at_call 36; refine CW.out.mono ?_; rintro e w1 ⟨B, p', d, rfl, own1, b1⟩
       have hp' := own1.len
       rw [show (ints (m.wtK n)).length = p from by unfold ints; rw [List.length_map, HP.out]] at hp'
       subst hp'
       have OW1 := Lib.hid own1
       have B1 := Lib.hid b1
       clear own1 b1))
  have hS0 : PwS w w1 g gd gp n m x D B p' d A q keep 0 := by
    have e0 := pw_zero m n OK.out keep
    refine ⟨?_, OW1.out, HK.out.only (Only.of_below (S := fun _ => False) B1.out (Nat.le_refl _)) (fun _ _ h => h), Only.of_below B1.out (Nat.le_refl _)⟩
    rw [e0]
    exact H.out.keepB B1.out
  have S0 := Lib.hid hS0
  clear hS0
  go_loopw [4, 5, 11] (fun _ _ u wr => ∃ j : Nat, j ≤ p' ∧ u = .int .i64 (j : Int) ∧ PwS w wr g gd gp n m x D B p' d A q keep j) (fun _ _ u _ => p' - (intOf u).toNat)
  case atStart => exact ⟨0, by omega, rfl, S0.out⟩
  case round =>
    obtain ⟨j, hj, rfl, hS⟩ := hrel
    by_cases hlt : j < p'
    · obtain ⟨i, hi⟩ : ∃ i, (m.wtK n)[j]? = some i := ⟨_, List.getElem?_eq_getElem (by rw [HP.out]; exact hlt)⟩
      obtain ⟨hin, hpd, _⟩ := m.wtK_get n j i hi
      obtain ⟨bw, rfl, hbw, hbl, hcw⟩ := hS.own.at_ (by omega)
      have kw : wr.cell? ⟨bw, j, none⟩ = some (.int .i64 (i : Int)) := hcw j _ (by unfold ints; rw [List.getElem?_map, hi]; rfl)
      have SR := Lib.hid hS
      have HI := Lib.hid hi
      have HPD := Lib.hid hpd
      have HBW := Lib.hid hbw
      clear hS hi hpd hcw hbw hbl
      by_cases hjq : j < q
      · obtain ⟨bk, ok', rfl, hbk, _, hck⟩ := HK.out.2 (by omega)
        obtain ⟨y, hy⟩ : ∃ y, keep[j]? = some y := ⟨_, List.getElem?_eq_getElem (by omega)⟩
        have hyd : keep.getD j false = y := by rw [List.getD_eq_getElem?_getD, hy]; rfl
        have kk : wr.cell? ⟨bk, ok' + j, none⟩ = some (.bool y) := by
          obtain ⟨bk2, ok2, e2, _, _, hck2⟩ := SR.out.kp.2 (by omega)
          simp only [Option.some.injEq, Addr.mk.injEq, and_true] at e2
          obtain ⟨rfl, rfl⟩ := e2
          exact hck2 j y hy
        have HYD := Lib.hid hyd
        clear hck hy hyd hbk
        cases y with
        | true =>
          have k0 := SR.out.dk.du
          have k1 := SR.out.dk.pm
          have h512 : (m.wait.getD i emp).size = 512 := by have := OK.out.wsz hin; have := HPD.out; omega
          have ep : pendL m i = lst (m.wait.getD i emp) := by unfold pendL; rw [if_neg HPD.out]
          obtain ⟨s, hs⟩ : ∃ s, m.wait.getD i emp = s := ⟨_, rfl⟩
          rw [hs] at h512 ep
          have HS := Lib.hid hs
          have EP := Lib.hid ep
          have H512 := Lib.hid h512
          have SS := Lib.hid (sizeSec (l := lst s) h512)
          have okL : ({ m with last := mix m n (pwF m keep j) } : RM).Ok n := OK.out.mixed (fun i _ h => pwF_pend m keep j i h)
          have OL := Lib.hid okL
          clear okL hs ep h512
          go_upto_region 5 with fail
          obtain ⟨w4, h4⟩ : ∃ w4, wr.drew = w4 := ⟨_, rfl⟩
          have S4 : Hid (PwS w w4 g gd gp n m x D (some ⟨bw, 0, none⟩) p' d (some ⟨bk, ok', none⟩) q keep j) := Lib.hid (h4 ▸ SR.out.drew)
          have H4 := Lib.hid h4
          have LK := Lib.hid (lookS_run S4.out.dk OL.out hin)
          rw [show pendL { m with last := mix m n (pwF m keep j) } i = lst s from EP.out] at LK
          clear h4
          go_still_tail 12, (by kernel_rfl)
          change wpStill _ _ wr.drew _ _ _
          rw [H4.out]
          refine wpStill_step (fun K hK => ?_)
          refine stillLk rfl rfl rfl LK.out ?_
          refine hK _ ?_
          clear hK K
          simp only [Act.put, List.setIfInBounds_toArray, List.set_cons_zero, List.set_cons_succ]
          still_step
          refine wpStill_nil ?_
          change wpList _ _ _ _ _ wr.drew
          rw [H4.out]
          obtain ⟨L, hL⟩ : ∃ L, mix m n (pwF m keep j) = L := ⟨_, rfl⟩
          have P4 := S4.out.dk
          rw [hL] at P4 OL
          have P4h := Lib.hid P4
          have HLL := Lib.hid hL
          have fit : i * 512 + (cellsB (lst s)).toArray.size ≤ (cellsB (flat L) ++ x.ex).toArray.size := by
            have h1 : (flat L).length = 512 * L.length := flat_len OL.out.ls
            have h2 : L.length = n := OL.out.nl
            simp only [List.size_toArray, List.length_append, cellsB_length, h1, h2, lst_len, H512.out]
            omega
          have FT := Lib.hid fit
          clear hL fit P4 k0 k1
          go_wp2_with (first
            | (refine wpList_storePart rfl 104 (.tmp 37) (.tmp 36) rfl gd (i * 512) (cellsB (lst s)).toArray rfl rfl 104 (cellsB (flat L) ++ x.ex).toArray P4h.out.row SS.out FT.out (fun v hv => cellsB_one _ v (by simpa using hv)) ?_
               change wpList _ _ _ _ _ (w4.setRow gd (secRow L x.ex i (lst s)))
               have o8 : Only (fun j => j = gd) w4 (w4.setRow gd (secRow L x.ex i (lst s))) := (Only.refl _ _).setRow (S := fun j => j = gd) rfl _
               have P8 := P4h.out.setSec OL.out hin H512.out
               have eL : L.set i s = mix m n (pwF m keep (j + 1)) := by rw [pw_keep m n keep j i HI.out HYD.out, HLL.out, HS.out]
               have SN : PwS w (w4.setRow gd (secRow L x.ex i (lst s))) g gd gp n m x D (some ⟨bw, 0, none⟩) p' d (some ⟨bk, ok', none⟩) q keep (j + 1) := by
                 refine ⟨?_, S4.out.own.only o8 (fun k hk e => ?_), S4.out.kp.only o8 (fun k hk e => hk (.inr (.inl e))), S4.out.o.trans (o8.mono (fun k _ e => .inr (.inl e)))⟩
                 · rw [← eL]
                   exact P8
                 · obtain rfl : bw = k := by injection hk
                   have := HLT.out gd (.inr (.inl rfl))
                   have := HBW.out
                   omega
               have SNh := Lib.hid SN
               clear SN P8 o8 eL
               generalize w4.setRow gd (secRow L x.ex i (lst s)) = w8 at SNh ⊢))
          go_roundw
          case rel => exact ⟨j + 1, by omega, by go_num, SNh.out⟩
          case measure => simp [intOf]; omega
        | false =>
          have SN : PwS w wr g gd gp n m x D (some ⟨bw, 0, none⟩) p' d (some ⟨bk, ok', none⟩) q keep (j + 1) := by
            have e := pw_drop m n keep j i HI.out HYD.out
            refine ⟨?_, SR.out.own, SR.out.kp, SR.out.o⟩
            rw [e]
            exact SR.out.dk
          have SNh := Lib.hid SN
          clear SN
          go_wp2_with fail
          go_roundw
          case rel => exact ⟨j + 1, by omega, by go_num, SNh.out⟩
          case measure => simp [intOf]; omega
      · have hyd : keep.getD j false = false := by rw [List.getD_eq_getElem?_getD, List.getElem?_eq_none (by omega)]; rfl
        have SN : PwS w wr g gd gp n m x D (some ⟨bw, 0, none⟩) p' d A q keep (j + 1) := by
          have e := pw_drop m n keep j i HI.out hyd
          refine ⟨?_, SR.out.own, SR.out.kp, SR.out.o⟩
          rw [e]
          exact SR.out.dk
        have SNh := Lib.hid SN
        clear SN hyd
        go_wp2_with fail
        go_roundw
        case rel => exact ⟨j + 1, by omega, by go_num, SNh.out⟩
        case measure => simp [intOf]; omega
    · obtain rfl : j = p' := by omega
      have hD := hS.dk
      have hO := hS.o
      rw [show mix m n (pwF m keep j) = mix m n (pwF m keep (m.wtK n).length) from by rw [HP.out]] at hD
      have k1 := hD.pm
      have DR := Lib.hid hD
      have ORh := Lib.hid hO
      clear hS hD hO
      obtain ⟨M2, hM2⟩ : ∃ M2, (m.pwK keep n).1 = M2 := ⟨_, rfl⟩
      have hE2 := EE.out
      have O2 := OE.out
      rw [← EE.out, hM2] at O2
      rw [hM2] at hE2
      have E2 := Lib.hid hE2
      have OM2 := Lib.hid O2
      have HM2 := Lib.hid hM2
      have hway : M2.way = m.way := by rw [hE2]
      have hcom : M2.coming = m.coming := by rw [hE2]
      have hpow : M2.flyM.powers = m.powers := by
        have : M2.flyM.powers = M2.powers := by unfold RM.flyM; split <;> rfl
        rw [this, hE2]
      obtain ⟨k, hk, hkn⟩ : ∃ k : Nat, x.sc = (k : Int) ∧ k < n := by
        by_cases h0 : m.way < 0
        · exact ⟨0, (H.out.wy.1 h0).1, by have := OK.out.n1; omega⟩
        · have h1 := (H.out.wy.2 (by omega)).1
          have h2 := OK.out.wy
          exact ⟨m.way.toNat, by omega, by omega⟩
      have htl : x.tl.length ≤ 512 := by
        by_cases h0 : m.way < 0
        · rw [(H.out.wy.1 h0).2]; simp
        · rw [(H.out.wy.2 (by omega)).2]; exact OK.out.cm
      have HKs := Lib.hid hk
      have HTL := Lib.hid htl
      have HPO := Lib.hid hpow
      clear hE2 O2 hM2 hway hcom hpow hk htl
      go_upto_region 8 with (first
        | (refine wpList_clearS rfl (.tmp 42) rfl rfl m.wrote DR.out.map ?_; intro w5 own5 o5
           have P5 := DR.out.cleared own5 o5 W0.out
           rw [← E2.out] at P5
           have P5h := Lib.hid P5
           have O5h := Lib.hid (ORh.out.trans (o5.mono (fun k _ e => .inr (.inr (.inl e)))))
           clear own5 o5 P5))
      have c0 := P5h.out.du
      have c6 : w5.cell? ⟨g, 6, none⟩ = some (.int .i64 (k : Int)) := by rw [← HKs.out]; exact P5h.out.cell 6
      have c7 : w5.cell? ⟨g, 7, none⟩ = some (.slice x.TA x.tn x.tc) := P5h.out.cell 7
      obtain ⟨w6, h6⟩ : ∃ w6, w5.drew = w6 := ⟨_, rfl⟩
      have P6 : Hid (PrD w6 g gd gp n M2 x (.map [])) := Lib.hid (h6 ▸ P5h.out.drew)
      have O6 : Hid (Only (PrB g gd gp x) w w6) := Lib.hid (h6 ▸ O5h.out.drew)
      have H6 := Lib.hid h6
      clear h6
      go_still_tail 16, (by kernel_rfl)
      change wpList _ _ _ _ _ w5.drew
      rw [H6.out]
      have fit : k * 512 + x.tl.length ≤ (flat M2.last).length := by
        have h1 : (flat M2.last).length = 512 * M2.last.length := flat_len OM2.out.ls
        have h2 : M2.last.length = n := OM2.out.nl
        have := HTL.out
        rw [h1, h2]
        omega
      have FT := Lib.hid fit
      clear fit c0 c6 c7 k1
      go_upto_region 9 with (first
        | (refine wpList_copyD rfl (.tmp 53) (.tmp 58) rfl Try.underlying39 sizeU8p gd (k * 512) 512 512 104 (flat M2.last) x.tl x.ex rfl P6.out.row FT.out x.TA x.tn x.tc rfl P6.out.tr.has (by have := P6.out.tr.len; have := HTL.out; omega) ?_; intro w7 b7 o7 v7
           have P7 := P6.out.flown OM2.out HKs.out b7 o7
           have P7h := Lib.hid P7
           have O7h := Lib.hid (O6.out.trans (o7.mono (fun k _ e => .inr (.inl e))))
           clear b7 o7 P7))
      go_frame
      go_upto_region 10 with (refine wpList_storePart rfl 91 (.tmp 63) (.tmp 61) rfl g 6 #[.int .i64 0, .slice none 0 0] rfl rfl 93 (pdC gd gp n M2.flyM x) P7h.out.blk infoTear (show 8 ≤ 10 by omega) tear0_ones ?_)
      go_frame
      generalize h8 : World.setRow _ _ _ = w8
      obtain ⟨x0, hx0⟩ : ∃ x0 : PX, x0 = { x with sc := 0, TA := none, tn := 0, tc := 0, tl := [] } := ⟨_, rfl⟩
      have b8 : w8.heap[g]? = some (.cells (pdC gd gp n M2.flyM x0) 93 (0, 0)) := by
        rw [← h8, hx0]
        exact setRow_heap w7 g _ _ _ _ P7h.out.blk
      have o8 : Only (fun j => j = g) w7 w8 := by
        rw [← h8]
        exact (Only.refl _ _).setRow (S := fun j => j = g) rfl _
      have c3 : w8.cell? ⟨g, 3, none⟩ = some (.bool (decide (0 ≤ M2.flyM.arms))) := cell_of_row w8 g 3 _ _ (0, 0) b8
      have c2 : w8.cell? ⟨g, 2, none⟩ = some (.bool M2.flyM.off) := cell_of_row w8 g 2 _ _ (0, 0) b8
      have c9 : w8.cell? ⟨g, 9, none⟩ = some (.int .i64 (M2.flyM.powers : Int)) := cell_of_row w8 g 9 _ _ (0, 0) b8
      have f3 : w8.frozen? ⟨g, 3, none⟩ = false := frozen_of_row w8 g 3 _ _ b8
      have f2 : w8.frozen? ⟨g, 2, none⟩ = false := frozen_of_row w8 g 2 _ _ b8
      have f9 : w8.frozen? ⟨g, 9, none⟩ = false := frozen_of_row w8 g 9 _ _ b8
      obtain ⟨M3, hM3⟩ : ∃ M3, M2.flyM = M3 := ⟨_, rfl⟩
      have P7 := P7h.out
      rw [hM3] at b8 c3 c2 c9 P7
      have hp3 : M3.powers < 1073741824 := by rw [← hM3, HPO.out]; exact HPW.out
      have B8 := Lib.hid b8
      have O8 := Lib.hid o8
      have P7k := Lib.hid P7
      have HX0 := Lib.hid hx0
      have HM3 := Lib.hid hM3
      clear h8 b8 o8 P7 hM3 hx0 P7h
      go_wp2_with fail
      go_end0
      have ePM : m.powerM n keep = { M3 with off := false, arms := -1, way := -1, powers := M3.powers + 1 } := by
        show ({ (m.pwK keep n).1.flyM with off := false, arms := -1, way := -1, powers := (m.pwK keep n).1.flyM.powers + 1 } : RM) = _
        rw [HM2.out, HM3.out]
      rw [ePM]
      have o9 : Only (fun j => j = g) w7 (((w8.setCell ⟨g, 3, none⟩ (.bool false)).setCell ⟨g, 2, none⟩ (.bool false)).setCell ⟨g, 9, none⟩ (.int .i64 ((M3.powers : Int) + 1))) := ((O8.out.cell1 _ _).cell1 _ _).cell1 _ _
      have b9 := heap3 B8.out (.bool false) (.bool false) (.int .i64 ((M3.powers : Int) + 1)) 3 2 9
      rw [HX0.out] at b9
      refine ⟨rfl, ⟨_, ⟨gd, gp, _, .map [], P7k.out.back o9 b9, rfl⟩, fun j hj => .inl ?_⟩, O7h.out.trans (o9.mono (fun k _ e => .inl e))⟩
      rcases hj with hj | hj | hj | hj
      · exact .inl hj
      · exact .inr (.inl hj)
      · exact .inr (.inr (.inl hj))
      · cases hj
end
end Go.Proofs.Ytkbbpkbchniddaa
