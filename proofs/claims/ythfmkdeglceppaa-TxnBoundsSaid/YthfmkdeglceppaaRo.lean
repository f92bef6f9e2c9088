/-
  Own work. The statements of layer 6: JournalRound.
-/
import Derived.Test.YthfmkdeglceppaaRd6
import Derived.Test.YthfmkdeglceppaaIr
import Derived.Test.YthfmkdeglceppaaPl
import Derived.Laws.Small
namespace Go.Proofs.Ythfmkdeglceppaa
open Go.RowKit Go.Maps
set_option linter.unusedVariables false
set_option linter.unusedSimpArgs false

theorem wpList_minR {P : Program} {ops : Array Oper} {rest : List Oper} {o : Oper} {a : Act} {w : World} {Q : Exit → Act → World → Prop} (hw : Region.wanted o (yielded ops a.tmps) = true) (x y : Operand) {ts : Array TypeId}
    (ho : o.op = .call { callee := .builtin .min, args := #[x, y], argTypes := ts }) (X Y V : Int) (hx : a.eval x = .int .i64 X) (hy : a.eval y = .int .i64 Y) (hv : (if Y < X then Y else X) = V)
    (h : wpList P ops Q rest (a.put o.dst (.int .i64 V)) w) : wpList P ops Q (o :: rest) a w := by
  refine BigFrame.wpList_want hw fun K hK => ?_
  unfold Oper.wp execOp
  simp only [ho, resolve, invoke, builtin, Sem.run_bind, Sem.run_pure, Result.andThen_ok, List.map_toArray, List.map_cons, List.map_nil, hx, hy, run_min_int2, hv]
  exact hK _ _ h
theorem PRow.only {w w' : World} {base : Nat} {v : Value} {l : List PuR} {S : Nat → Prop} (h : PRow w base v l) (ho : Only S w w') (hv : ∀ k, v.ownBlock = some k → ¬ S k) (hd : ∀ x ∈ l, ∀ b, x.A = some b → ¬ S b.block) : PRow w' base v l := by
  refine ⟨⟨h.own.1, ?_⟩, fun x hx => ?_, h.rng⟩
  · rcases h.own.2 with h2 | ⟨g, c, cur, e, h3, hg, r⟩
    · exact .inl h2
    · exact .inr ⟨g, c, cur, e, h3, by rw [ho.block g (Array.getElem?_eq_some_iff.1 hg).1 (hv g (by rw [e]; rfl))]; exact hg, r⟩
  · obtain ⟨h1, h2, h3⟩ := h.dat x hx
    exact ⟨h1.far ho (hd x hx), h2, h3⟩
/-- What Open of a disk on the way hands back. -/
def OpenB (Z : DK) (w0 W : World) (gd n : Nat) (p : Pt) (V T r : Nat) (H : Nat → List UInt8) (B : Nat → Prop) (en : Ending) (W' : World) : Prop :=
  ∃ g gp p' j', en = .returned (.tuple #[.pointer (some ⟨g, 0, none⟩), .int .i64 0]) ∧ UpB Z w0 W' g gd gp n p' j' B ∧ SJ p' n V j' T 0 r H ∧ p'.m.powers = p.m.powers ∧ Only (fun k => ¬ B k) W W'
theorem ownBlk {g n c k : Nat} (h : (Value.slice (some ⟨g, 0, none⟩) n c).ownBlock = some k) : k = g := by
  have h2 : some g = some k := h
  injection h2 with h2
  exact h2.symm
theorem cellsB3 (a b : Nat) (ha : a < 256) (hb : b < 256) : (cellsB [UInt8.ofNat a, UInt8.ofNat b, 1]).toArray = #[.int .u8 (a : Int), .int .u8 (b : Int), .int .u8 1] := by
  have h1 : (UInt8.ofNat a).toNat = a := by rw [UInt8.toNat_ofNat']; omega
  have h2 : (UInt8.ofNat b).toNat = b := by rw [UInt8.toNat_ofNat']; omega
  unfold cellsB
  simp only [List.map_cons, List.map_nil, h1, h2]
  rfl
set_option maxRecDepth 100000 in
set_option maxHeartbeats 4000000 in
theorem round_law (Z : DK) (a0 : Int) (A1 : Option Addr) (n1 c1 : Nat) (z1 : List Int) (A2 : Option Addr) (n2 c2 : Nat) (z2 : List Bool) (w : World) (h0 : -9223372036854775808 ≤ a0 ∧ a0 ≤ 9223372036854775807) (hi : HasIr w w.heap.size A1 n1 z1) (ho : HasBo w w.heap.size A2 n2 z2) :
    Calls Try.prog 4 #[.int .i64 a0, .slice A1 n1 c1, .slice A2 n2 c2] w (RetTrue w) := by
  have CB := Lib.hid (fun W => begun6_any Z W)
  have HI := Lib.hid hi
  have HO := Lib.hid ho
  have L1 := Lib.hid hi.1
  have L2 := Lib.hid ho.1
  by_cases hl1 : 200 < n1
  · have hl : (200 : Int) < (n1 : Int) := by omega
    clear hi ho h0
    go_enter Try.func4, Try.ntmps4
    go_wp2_with (first
      | (go_at_call 11; refine (CB.out _).mono ?_; rintro e w1 ⟨rfl, b1⟩
         have B1 := Lib.hid b1
         clear b1))
    go_ret
    exact ⟨rfl, B1.out⟩
  by_cases hl2 : 200 < n2
  · have hl : (200 : Int) < (n2 : Int) := by omega
    have hl' : ¬ (200 : Int) < (n1 : Int) := by omega
    clear hi ho h0
    go_enter Try.func4, Try.ntmps4
    go_wp2_with (first
      | (go_at_call 11; refine (CB.out _).mono ?_; rintro e w1 ⟨rfl, b1⟩
         have B1 := Lib.hid b1
         clear b1))
    go_ret
    exact ⟨rfl, B1.out⟩
  have hl1' : ¬ (200 : Int) < (n1 : Int) := by omega
  have hl2' : ¬ (200 : Int) < (n2 : Int) := by omega
  have HN : Hid (n1 ≤ 200 ∧ n2 ≤ 200) := Lib.hid (by omega)
  have CP0 := Lib.hid (fun W => place_any a0 60 W h0 (by omega) (by omega))
  have CP1 : Hid (∀ (z : Int) (m : Nat) W, z ∈ z1 → 1 ≤ m → m ≤ 40 → Calls Try.prog 12 #[.int .i64 z, .int .i64 (m : Int)] W fun e w' => (∃ j : Nat, j < m ∧ e = .returned (.int .i64 (j : Int))) ∧ W = w') := Lib.hid (fun z m W hz g1 g2 => place_any z m W (HI.out.2.1 z hz) g1 (by omega))
  have CN : Hid (∀ W, Below w.heap.size w W → Calls Try.prog 13 #[.int .i64 128] W fun e W' => ∃ g, e = .returned (.pointer (some ⟨g, 0, none⟩)) ∧ OnD Z w W' g 128 (newM 128)) := Lib.hid (fun W hb => new_up Z w W hb 128 (by omega) (by omega))
  obtain ⟨q0, c0⟩ := QP.new 128 (by omega) (by omega)
  have hpw : ∀ r, (fmtP (newM 128) 128 r).m.powers = 0 := fun r => fmtP_powers _ _ _
  obtain ⟨M0, hM0⟩ : ∃ M0, newM 128 = M0 := ⟨_, rfl⟩
  rw [hM0] at q0 c0 CN hpw
  have hm0 : M0.wrote = 0 := by rw [← hM0]; rfl
  obtain ⟨P1, hP1⟩ : ∃ P1 : Nat → Pt, ∀ r, fmtP M0 128 r = P1 r := ⟨fun r => _, fun _ => rfl⟩
  have PW1 : Hid (∀ r, (P1 r).m.powers = 0) := Lib.hid (fun r => by rw [← hP1]; exact hpw r)
  have DS1 : Hid (∀ r : Nat, 8 ≤ r → r ≤ 67 → DS (P1 r) 128 129 1 r (fun _ => zsec)) := Lib.hid (fun r g1 g2 => by rw [← hP1]; exact DS.fmt q0 (by omega) r g1 (by omega) (by omega))
  have CF : Hid (∀ (r : Nat) gd W, 8 ≤ r → r ≤ 67 → OnD Z w W gd 128 M0 → Calls Try.prog 14 #[.pointer (some ⟨gd, 0, none⟩), .int .i64 (r : Int)] W fun en W' => (∃ e : Int, en = .returned (.int .i64 e)) ∧ OnD Z w W' gd 128 (P1 r).m) := Lib.hid (fun r gd W g1 g2 a => (format_up a r q0.ok (by rw [hm0]; omega) g1 (by omega) (by omega)).mono (by rintro en W' ⟨h, h'⟩; rw [hP1] at h'; exact ⟨⟨_, h⟩, h'⟩))
  have CO : Hid (∀ (r gd : Nat) (p : Pt) (V T : Nat) (H : Nat → List UInt8) (B : Nat → Prop) W, V ≤ 1000000 → OnB Z w W gd 128 p.m B → DS p 128 V T r H → Calls Try.prog 15 #[.pointer (some ⟨gd, 0, none⟩)] W (OpenB Z w W gd 128 p (V + 129) T r H B)) := Lib.hid (fun r gd p V T H B W hV a b => (a.open_ b (by omega)).mono (by
    rintro en W' ⟨g, gp, p', j', h1, h2, h3, h4, _, h5⟩
    exact ⟨g, gp, p', j', h1, h2, h3, h4, h5⟩))
  clear hM0 hm0 hP1 q0 c0 h0 hi ho hpw
  go_enter Try.func4, Try.ntmps4
  go_upto_region 6 with (first
    | (go_at_call 11; refine (CB.out _).mono ?_; rintro e w1 ⟨rfl, b1⟩
       have B1 := Lib.hid b1
       clear b1)
    | (go_at_call_of 12 (Value.int .i64 60); refine (CP0.out _).mono ?_; rintro e w2 ⟨⟨r0, hr0, rfl⟩, rfl⟩
       obtain ⟨r, hr⟩ : ∃ r, r = 8 + r0 := ⟨_, rfl⟩))
  have er : (8 : Int) + (r0 : Int) = (r : Int) := by omega
  rw [er]
  have HR : Hid (8 ≤ r ∧ r ≤ 67) := Lib.hid (by omega)
  have hr8 : 8 ≤ r := by omega
  have hr67 : r ≤ 67 := by omega
  clear er hr hr0
  obtain ⟨mm, hmm⟩ : ∃ mm : Nat, mm = if 40 < r - 1 then 40 else r - 1 := ⟨_, rfl⟩
  have hmm2 : 1 ≤ mm ∧ mm ≤ 40 ∧ mm + 1 ≤ r := by rw [hmm]; split <;> omega
  have hmv : (if (40 : Int) < (r : Int) - 1 then (40 : Int) else (r : Int) - 1) = (mm : Int) := by
    rw [hmm]
    by_cases h4 : 40 < r - 1
    · rw [if_pos h4, if_pos (by omega)]; rfl
    · rw [if_neg h4, if_neg (by omega)]; omega
  have MV := Lib.hid hmv
  have MM2 := Lib.hid hmm2
  clear hmm hmv hmm2
  obtain ⟨h, hh⟩ : ∃ h, 128 - 2 - r = h := ⟨_, rfl⟩
  have HH := Lib.hid hh
  have hh1 : 59 ≤ h := by omega
  have hh2 : h ≤ 118 := by omega
  have hh3 : h + r = 126 := by omega
  clear hh
  go_upto_region 12 with (first
    | (go_at_call 13; refine (CN.out _ B1.out).mono ?_; rintro e w3 ⟨gd, rfl, a3⟩
       have A3 := Lib.hid a3
       clear a3)
    | (go_at_call 14; refine (CF.out r _ _ HR.out.1 HR.out.2 A3.out).mono ?_; rintro e w4 ⟨⟨ef, rfl⟩, a4⟩
       have A4 := Lib.hid a4
       clear a4)
    | (go_at_call 15; refine (CO.out r _ (P1 r) 129 1 (fun _ => zsec) (fun _ => False) _ (by omega) A4.out.b (DS1.out r HR.out.1 HR.out.2)).mono ?_; rintro e w5 ⟨g, gp, p, j, rfl, a5, b5, pw5, _⟩
       have A5 := Lib.hid a5
       have B5 := Lib.hid b5
       have PW5 : Hid (p.m.powers = 0) := Lib.hid (pw5.trans (PW1.out r))
       have HM5 := homes_all a5 b5 (by omega) (fun q hq => hq.elim)
       rw [HH.out] at HM5
       have HM := Lib.hid HM5
       clear a5 b5 pw5 HM5)
    | (go_at_call 16; refine HM.out.mono ?_; rintro e w6 ⟨A6, c6, rfl, o6, u6, _⟩
       have O6 := Lib.hid o6
       have U6 := Lib.hid (u6.less (B' := fun k => (Value.slice A6 h c6).ownBlock = some k) (fun k hk => .inr hk))
       clear o6 u6))
  clear HM
  obtain ⟨gn, rfl, hgn⟩ : ∃ gn, A6 = some ⟨gn, 0, none⟩ ∧ w5.heap.size ≤ gn := by
    obtain ⟨gn, e, h1, _⟩ := O6.out.at_ (by omega)
    exact ⟨gn, e, h1⟩
  clear hgn
  have U6' : Hid (UpB Z w w6 g gd gp 128 p j (fun q => q = gn)) := Lib.hid (U6.out.less (fun k hk => by subst hk; rfl))
  clear U6
  have FN : Hid (∀ (W : World) (l : List Value), OwnV 9 W w5.heap.size (.slice (some ⟨gn, 0, none⟩) h c6) l → ∀ t u, l[t]? = some u → W.cell? ⟨gn, t, none⟩ = some u ∧ W.frozen? ⟨gn, t, none⟩ = false) := Lib.hid (fun W l o t u ht => by
    have ht2 := (List.getElem?_eq_some_iff.1 ht).1
    have hl := o.len
    obtain ⟨g', e', _, _, hc⟩ := o.at_ (by omega)
    injection e' with e'
    injection e' with e'
    subst e'
    refine ⟨hc t u ht, ?_⟩
    rcases o.form with ⟨e, _⟩ | ⟨g', c', cur, e, _, _, hg, _⟩
    · cases e
    · simp only [Value.slice.injEq, Option.some.injEq, Addr.mk.injEq, and_true] at e
      obtain ⟨rfl, -, -⟩ := e
      exact frozen_of_row W gn t _ _ hg)
  have h1000 : n1 ≤ 200 := by omega
  go_upto_region 13 with fail
  go_loopw [8, 11] (fun v i wr => ∃ (k g gp u : Nat) (p : Pt) (j : JM) (H : Nat → List UInt8), k ≤ n1 ∧ i = .int .i64 (k : Int) ∧ v = .pointer (some ⟨g, 0, none⟩) ∧ UpB Z w wr g gd gp 128 p j (fun q => q = gn) ∧ SJ p 128 (258 + 300 * k) j (k + 1) u r H ∧ p.m.powers ≤ k ∧ OwnV 9 wr w5.heap.size (.slice (some ⟨gn, 0, none⟩) h c6) (strs (hsL H h))) (fun _ i _ => n1 - (Go.RowKit.intOf i).toNat)
  case atStart => exact ⟨0, g, gp, 0, p, j, _, Nat.zero_le _, rfl, rfl, U6'.out, B5.out, by rw [PW5.out]; omega, O6.out⟩
  case round =>
    clear U6' B5 PW5 O6
    obtain ⟨k, g, gp, u, p, j, H, hk, rfl, rfl, qu, qs, qp, qo⟩ := hrel
    obtain ⟨W1, rfl⟩ : ∃ W, W = wr := ⟨_, rfl⟩
    have QU := Lib.hid qu
    have QS := Lib.hid qs
    have QP' := Lib.hid qp
    have QO := Lib.hid qo
    have hgn1 : gn < W1.heap.size := (qu.lt gn rfl).2
    have HGN := Lib.hid hgn1
    clear qu qs qp qo hgn1
    by_cases hlt : k < n1
    · obtain ⟨g0, o0, rfl, hg0, hcl⟩ := HI.out.2.2 (by omega)
      obtain ⟨z, hz⟩ : ∃ z, z1[k]? = some z := ⟨_, List.getElem?_eq_getElem (by rw [← L1.out]; exact hlt)⟩
      have k1 : W1.cell? ⟨g0, o0 + k, none⟩ = some (.int .i64 z) := (QU.out.up.bel.cell hg0).trans (hcl k z hz)
      have HZM := Lib.hid (List.mem_of_getElem? hz)
      have hk200 : k < 200 := by omega
      clear hcl hz
      go_upto_region 16 with (first
        | (refine wpList_minR (by rfl) (.tmp 54) (.const (.int .i64 40)) rfl _ _ (mm : Int) rfl rfl MV.out ?_)
        | (go_at_call 12; refine (CP1.out z mm _ HZM.out MM2.out.1 MM2.out.2.1).mono ?_; rintro e w2 ⟨⟨j2, hj2, rfl⟩, rfl⟩
           have hj40 : j2 < 40 := by have := MM2.out; omega
           obtain ⟨N, hN⟩ : ∃ N, N = j2 + 1 := ⟨_, rfl⟩))
      have eN : (1 : Int) + (j2 : Int) = (N : Int) := by omega
      rw [eN]
      have HNN : Hid (1 ≤ N ∧ N ≤ 40 ∧ N < r) := Lib.hid (by have := MM2.out; omega)
      have hN40 : N ≤ 40 := HNN.out.2.1
      clear eN hN hj2 hj40 k1
      go_upto_region 18 with fail
      go_loopw [13, 14] (fun l x wr => ∃ (q : Nat) (A' : Option Addr) (c' : Nat) (rs : List PuR), q ≤ N ∧ x = .int .i64 (q : Int) ∧ l = .slice A' q c' ∧ PRow wr W1.heap.size (.slice A' q c') rs ∧ puL rs = roL h k q ∧ OwnV 9 wr w5.heap.size (.slice (some ⟨gn, 0, none⟩) h c6) (strs (hsL (roH H h k q) h)) ∧ Only (fun b => b = gn ∨ W1.heap.size ≤ b) W1 wr ∧ ∀ y ∈ rs, ∀ b, y.A = some b → W1.heap.size ≤ b.block ∧ b.block < wr.heap.size) (fun _ x _ => N - (Go.RowKit.intOf x).toNat)
      case atStart => exact ⟨0, none, 0, [], Nat.zero_le _, rfl, rfl, PRow.nil _ _, rfl, QO.out, Only.refl _ _, fun x hx => absurd hx (by simp)⟩
      case round =>
        obtain ⟨q, A', c', rs, hq, rfl, rfl, qp, ql, qo, qy, qx⟩ := hrel
        obtain ⟨W2, rfl⟩ : ∃ W, W = wr := ⟨_, rfl⟩
        have RP := Lib.hid qp
        have RL := Lib.hid ql
        have RO := Lib.hid qo
        have RY := Lib.hid qy
        have RX := Lib.hid qx
        clear qp ql qo qy qx
        by_cases hqn : q < N
        · obtain ⟨t, ht⟩ : ∃ t, (k * 7 + q) % h = t := ⟨_, rfl⟩
          have hth : t < h := by rw [← ht]; exact Nat.mod_lt _ (by omega)
          have eat : ((k : Int) * 7 + (q : Int)) % (h : Int) = (t : Int) := by
            rw [← ht]
            push_cast
            rfl
          have HT := Lib.hid ht
          have EAT := Lib.hid eat
          have HAS : Hid (HasB (W2.alloc (.cells #[.int .u8 (k : Int), .int .u8 (q : Int), .int .u8 1] 5)) (W2.alloc (.cells #[.int .u8 (k : Int), .int .u8 (q : Int), .int .u8 1] 5)).heap.size (some ⟨W2.heap.size, 0, none⟩) 3 [UInt8.ofNat k, UInt8.ofNat q, 1]) := Lib.hid (by
            have := HasB.row W2 [UInt8.ofNat k, UInt8.ofNat q, 1] 5
            rw [cellsB3 k q (by omega) (by omega)] at this
            exact this)
          have FC := Lib.hid (full_any (some ⟨W2.heap.size, 0, none⟩) 3 3 _ _ _ HAS.out (Nat.le_refl _))
          have NEW : Hid (decide ((t : Int) ∈ rs.map PuR.i) = false) := Lib.hid (decide_eq_false (by
            have e : rs.map PuR.i = (roL h k q).map Pu.i := by rw [← RL.out]; unfold puL; rw [List.map_map]; rfl
            rw [e, ← HT.out]
            exact roL_new (by omega)))
          have hxr : -9223372036854775808 ≤ (t : Int) ∧ (t : Int) ≤ 9223372036854775807 := by omega
          clear ht eat
          go_upto_region 21 with fail
          rw [EAT.out]
          go_upto_region 23 with (first
            | (go_at_call 24; refine FC.out.mono ?_; rintro e w3 ⟨A5, n5, c5, rfl, own3, b3⟩
               have b3' : Below W2.heap.size W2 w3 := ((Below.refl _ _).alloc (Nat.le_refl _) _).trans (b3.mono (by simp))
               have B3 := Lib.hid b3'
               have OW3 := Lib.hid own3
               have TW3 := twice_any (RP.out.below b3') (by omega) (t : Int) hxr
               rw [NEW.out] at TW3
               have TW := Lib.hid TW3
               clear own3 b3 b3' TW3)
            | (go_at_call 25; refine TW.out.mono ?_; rintro e w4 ⟨rfl, k4, hw4⟩
               have B4 : Hid (Below w3.heap.size w3 w4) := Lib.hid (by rw [hw4]; exact ⟨rfl, rfl, rfl, Nat.le_refl _, fun _ _ => rfl⟩)
               clear hw4))
          have B34 := Lib.hid (B3.out.trans (B4.out.mono B3.out.size))
          have HDN := Lib.hid (OW3.out.x.has.on B4.out)
          have HCN := Lib.hid OW3.out.x.caps.1
          have HG5 : Hid (∀ b : Addr, A5 = some b → W2.heap.size ≤ b.block ∧ b.block < w4.heap.size) := Lib.hid (fun b hb => by
            obtain ⟨g6', e6', hg1, hg2, _⟩ := OW3.out.x.head (by have := OW3.out.x.len; rw [fullL_len] at this; omega)
            rw [e6'] at hb
            injection hb with hb
            subst hb
            have := B4.out.size
            have hz : W2.heap.size ≤ (W2.alloc (.cells #[.int .u8 (k : Int), .int .u8 (q : Int), .int .u8 1] 5)).heap.size := by simp
            exact ⟨Nat.le_trans hz hg1, Nat.lt_of_lt_of_le hg2 this⟩)
          have hb7 : Below W2.heap.size W2 (w4.alloc (.cells #[.int .i64 (t : Int), .slice A5 n5 c5] 46)) := B34.out.trans (((Below.refl w4.heap.size w4).alloc (Nat.le_refl _) _).mono B34.out.size)
          have N7 := Lib.hid (RP.out.below hb7)
          have HD7 := Lib.hid (HDN.out.on ((Below.refl w4.heap.size w4).alloc (Nat.le_refl _) (.cells #[.int .i64 (t : Int), .slice A5 n5 c5] 46)))
          have HS7 : Hid ((w4.alloc (.cells #[.int .i64 (t : Int), .slice A5 n5 c5] 46)).heap.size = w4.heap.size + 1) := Lib.hid (by simp)
          have HF7 : Hid (∀ b : Addr, A5 = some b → (Value.slice A' q c').ownBlock ≠ some b.block ∧ b.block < (w4.alloc (.cells #[.int .i64 (t : Int), .slice A5 n5 c5] 46)).heap.size) := Lib.hid (fun b hb => by
            obtain ⟨h1, h2⟩ := HG5.out b hb
            have h3 := HS7.out
            exact ⟨fun hh => by have := (World.ownsRow.lt RP.out.own _ hh).2; omega, by omega⟩)
          have B7 := Lib.hid hb7
          have Y7 : Hid (Only (fun b => b = gn ∨ W1.heap.size ≤ b) W1 (w4.alloc (.cells #[.int .i64 (t : Int), .slice A5 n5 c5] 46))) := Lib.hid (RY.out.trans (Only.of_below hb7 (Nat.le_refl _)))
          have O7 := Lib.hid (RO.out.below hb7)
          clear hb7
          go_upto_region 24 with (first
            | (at_builtin; refine wp_app_pu rfl (.tmp 80) (.tmp 84) rfl W1.heap.size _ rs rfl N7.out w4.heap.size 1 ⟨(t : Int), A5, n5, c5, roD k q⟩ rfl (heap_alloc_new _ _) HD7.out HCN.out HF7.out hxr (fun x hx b hb => Nat.lt_of_lt_of_le (RX.out x hx b hb).2 B7.out.size) (by have := RP.out.len; omega) (Nat.le_trans RY.out.size B7.out.size) ?_
               intro A8 n8 c8 w8 pr8 b8 x8
               have PR8 := Lib.hid pr8
               have B8 := Lib.hid b8
               have X8 := Lib.hid x8
               clear pr8 b8 x8))
          have hn8 : n8 = q + 1 := by have := PR8.out.len; rw [this, List.length_append, ← RP.out.len]; rfl
          subst hn8
          have Y8 : Hid (Only (fun b => b = gn ∨ W1.heap.size ≤ b) W1 w8) := Lib.hid (Y7.out.trans ((Only.below B8.out).mono (fun b _ hb => .inr hb)))
          have O8 : Hid (OwnV 9 w8 w5.heap.size (.slice (some ⟨gn, 0, none⟩) h c6) (strs (hsL (roH H h k q) h))) := Lib.hid (O7.out.only (Only.below B8.out) (fun b hb hh => by
            have e := ownBlk hb
            have := HGN.out
            subst e
            exact absurd hh (by omega)))
          have hut : (strs (hsL (roH H h k q) h))[t]? = some (.string (strB (roH H h k q t))) := by
            unfold strs hsL
            rw [List.getElem?_map, List.getElem?_map, List.getElem?_range hth]
            rfl
          obtain ⟨kc, kf⟩ := FN.out w8 _ O8.out t _ hut
          obtain ⟨zs, hzs⟩ : ∃ zs, Value.string (strB (roH H h k q t)) = zs := ⟨_, rfl⟩
          rw [hzs] at kc
          have HDS : HasB w8 w8.heap.size A5 n5 (roD k q) := (PR8.out.dat ⟨(t : Int), A5, n5, c5, roD k q⟩ (by simp)).1
          have hcv : (convert 39 9 (.slice A5 n5 c5)).run Try.prog w8 = .ok (.string (strB (roD k q))) w8 := run_conv Try.underlying39 Try.underlying5 Try.underlying9 _ _ _ c5 _ HDS
          have CV := Lib.hid hcv
          have O9 := O8.out.set (k := t) (u := .string (strB (roD k q))) (by have := O8.out.len; omega) rfl
          rw [← HT.out, roH_row H h k q (by omega), HT.out] at O9
          have O9' := Lib.hid O9
          have Y9 : Hid (Only (fun b => b = gn ∨ W1.heap.size ≤ b) W1 (w8.setCell ⟨gn, t, none⟩ (.string (strB (roD k q))))) := Lib.hid (Y8.out.setCell (.inl rfl) _)
          have P9 : Hid (PRow (w8.setCell ⟨gn, t, none⟩ (.string (strB (roD k q)))) W1.heap.size (.slice A8 (q + 1) c8) (rs ++ [⟨(t : Int), A5, n5, c5, roD k q⟩])) := Lib.hid (PR8.out.only (S := fun b => b = gn) ((Only.refl (fun b => b = gn) w8).setCell (p := ⟨gn, t, none⟩) rfl _) (fun b hb hh => by
              have := (World.ownsRow.lt PR8.out.own _ hb).1
              have := HGN.out
              omega) (fun x hx b hb hh => by
              have := HGN.out
              rcases List.mem_append.1 hx with hx | hx
              · have := (RX.out x hx b hb).1
                omega
              · rw [List.mem_singleton] at hx
                subst hx
                have := (HG5.out b hb).1
                have := RY.out.size
                omega))
          have X9 : Hid ((w8.setCell ⟨gn, t, none⟩ (.string (strB (roD k q)))).heap.size = w8.heap.size) := Lib.hid (by simp [World.setCell])
          clear hut hzs HDS hcv O9
          go_wp2_with (first
            | (refine wpList_convG (by rfl) 39 9 (.tmp 88) rfl _ _ rfl CV.out ?_))
          go_roundw
          case rel =>
            refine ⟨q + 1, A8, c8, _, by omega, by go_num, rfl, P9.out, ?_, O9'.out, Y9.out, fun y hy b hb => ?_⟩
            · rw [roL_succ, ← RL.out, HT.out]
              unfold puL
              rw [List.map_append]
              rfl
            · rw [X9.out]
              refine ⟨?_, X8.out y hy b hb⟩
              rcases List.mem_append.1 hy with hy | hy
              · exact (RX.out y hy b hb).1
              · rw [List.mem_singleton] at hy
                subst hy
                have := (HG5.out b hb).1
                have := RY.out.size
                omega
          case measure => simp [Go.RowKit.intOf]; omega
        · obtain rfl : q = N := by omega
          have UC : Hid (UpB Z w W2 g gd gp 128 p j (fun b => b = gn)) := Lib.hid (QU.out.own RY.out (fun b hb => .inl hb))
          obtain ⟨e1, u', s1⟩ := QS.out.round (i := k) (k := q) (by omega) HNN.out.1 HNN.out.2.1 HNN.out.2.2 (by omega)
          have hpu := RP.out.puts
          rw [RL.out] at hpu
          have e126 : 126 - r = h := by omega
          rw [e126] at e1 s1
          have CC := UC.out.commit QS.out (by omega) A' q c' _ hpu (by omega) (fun x hx => by rw [(roL_ok (h := h) (by omega) x hx).2.2]; omega)
          rw [e1] at CC
          have pwc : (cmt p 128 j (roL h k q)).p.m.powers ≤ k := by rw [cmt_powers]; exact QP'.out
          obtain ⟨p3, hp3⟩ : ∃ p3, (cmt p 128 j (roL h k q)).p = p3 := ⟨_, rfl⟩
          obtain ⟨j3, hj3⟩ : ∃ j3, (cmt p 128 j (roL h k q)).j = j3 := ⟨_, rfl⟩
          rw [hp3] at s1 CC pwc
          rw [hj3] at s1 CC
          have S3 := Lib.hid s1
          have CM := Lib.hid CC
          have PW3 := Lib.hid pwc
          have RH : Hid (roH H h k q = roH H h k q) := Lib.hid rfl
          clear e1 s1 hpu e126 CC pwc hp3 hj3
          by_cases hk2 : k < n2
          · obtain ⟨g2, o2, rfl, hg2, hcl⟩ := HO.out.2 (by omega)
            obtain ⟨bo, hbo⟩ : ∃ bo, z2[k]? = some bo := ⟨_, List.getElem?_eq_getElem (by rw [← L2.out]; exact hk2)⟩
            have KB : Hid (∀ W, Below w.heap.size w W → W.cell? ⟨g2, o2 + k, none⟩ = some (.bool bo)) := Lib.hid (fun W hb => (hb.cell hg2).trans (hcl k bo hbo))
            have hk2' : (k : Int) < (n2 : Int) := by omega
            clear hcl hbo
            by_cases hb1 : bo = true
            · subst hb1
              go_wp2_with (first
                | (go_at_call 21; refine CM.out.mono ?_; rintro e w3 ⟨rfl, u3, y3⟩
                   have U3 := Lib.hid u3
                   have O3 := Lib.hid (RO.out.only y3 (fun b hb hn => hn (ownBlk hb)))
                   have kb3 := KB.out w3 u3.up.bel
                   clear u3 y3)
                | (go_at_call 22; refine (U3.out.disk.power (S3.out.jok (by omega)).2.1 (by have := PW3.out; omega) none 0 0 [] (fun S _ _ => HasNo.nil _ _ _) (Nat.le_refl _) (by omega)).mono ?_; rintro e w4 ⟨rfl, u4, y4⟩
                   have U4 := Lib.hid u4
                   have O4 := Lib.hid (O3.out.only y4 (fun b hb hn => hn (ownBlk hb)))
                   have D4 := Lib.hid (S3.out.ds.power [] (by have := PW3.out; omega))
                   clear u4 y4)
                | (go_at_call 15; refine (CO.out r gd ⟨p3.m.powerM 128 [], 0⟩ _ _ _ _ _ (by omega) U4.out D4.out.1).mono ?_; rintro e w5' ⟨g5, gp5, p5, j5, rfl, u5, s5, pw5, y5⟩
                   have U5 := Lib.hid u5
                   have S5 := Lib.hid s5
                   have PW5 : Hid (p5.m.powers ≤ k + 1) := Lib.hid (by
                     rw [pw5]
                     show (p3.m.powerM 128 []).powers ≤ k + 1
                     rw [D4.out.2]
                     have := PW3.out
                     omega)
                   have O5 := Lib.hid (O4.out.only y5 (fun b hb hn => hn (ownBlk hb)))
                   clear u5 s5 pw5 y5))
              go_roundw
              case rel => exact ⟨k + 1, g5, gp5, 0, p5, j5, roH H h k q, by omega, by go_num, rfl, U5.out, S5.out.more (by omega), PW5.out, O5.out⟩
              case measure => simp [Go.RowKit.intOf]; omega
            · have hb2 : bo = false := by simpa using hb1
              subst hb2
              clear hb1
              go_wp2_with (first
                | (go_at_call 21; refine CM.out.mono ?_; rintro e w3 ⟨rfl, u3, y3⟩
                   have U3 := Lib.hid u3
                   have O3 := Lib.hid (RO.out.only y3 (fun b hb hn => hn (ownBlk hb)))
                   have kb3 := KB.out w3 u3.up.bel
                   clear u3 y3))
              go_roundw
              case rel => exact ⟨k + 1, g, gp, u', p3, j3, roH H h k q, by omega, by go_num, rfl, U3.out, S3.out.more (by omega), by have := PW3.out; omega, O3.out⟩
              case measure => simp [Go.RowKit.intOf]; omega
          · have hk2' : ¬ (k : Int) < (n2 : Int) := by omega
            go_wp2_with (first
              | (go_at_call 21; refine CM.out.mono ?_; rintro e w3 ⟨rfl, u3, y3⟩
                 have U3 := Lib.hid u3
                 have O3 := Lib.hid (RO.out.only y3 (fun b hb hn => hn (ownBlk hb)))
                 clear u3 y3))
            go_roundw
            case rel => exact ⟨k + 1, g, gp, u', p3, j3, roH H h k q, by omega, by go_num, rfl, U3.out, S3.out.more (by omega), by have := PW3.out; omega, O3.out⟩
            case measure => simp [Go.RowKit.intOf]; omega
    · obtain rfl : k = n1 := by omega
      have HM5 := homes_all QU.out QS.out (by omega) (fun b hb => by subst hb; exact HGN.out)
      rw [HH.out] at HM5
      have HM := Lib.hid HM5
      have TU := turn_up QU.out.up QS.out
      clear HM5 TU
      go_wp2_with (first
        | (go_at_call 16; refine HM.out.mono ?_; rintro e w3 ⟨A3, c3, rfl, o3, u3, y3⟩
           have U3 := Lib.hid u3
           have AL := Lib.hid (alike_any (c := c6) (d := c3) (QO.out.only y3 (fun b hb hn => hn (ownBlk hb))).hasS o3.hasS (by omega) (by omega))
           clear o3 u3 y3)
        | (go_at_call 23; refine AL.out.mono ?_; rintro e w4 ⟨rfl, k4, hw4⟩
           have U4 := Lib.hid (U3.out.below (W' := w4) (by rw [hw4]; exact ⟨rfl, rfl, rfl, Nat.le_refl _, fun _ _ => rfl⟩))
           have TU := turn_up U4.out.up QS.out
           rw [show k + 1 - 1 = k by omega] at TU
           have TU' := Lib.hid TU
           clear hw4 TU)
        | (go_at_call 26; refine TU'.out.mono ?_; rintro e w5' ⟨rfl, rfl⟩))
      go_ret
      exact ⟨rfl, U4.out.up.bel⟩
end Go.Proofs.Ythfmkdeglceppaa
