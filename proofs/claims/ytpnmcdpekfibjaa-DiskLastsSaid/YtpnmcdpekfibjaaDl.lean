/-
  Own work. DiskLasts walked over a disk by its contracts.
-/
import Derived.Test.YtpnmcdpekfibjaaDt
import Derived.Test.YtpnmcdpekfibjaaDc
namespace Go.Proofs.Ytpnmcdpekfibjaa
open Go.RowKit
set_option linter.unusedVariables false
set_option linter.unusedSimpArgs false

/-- What is kept of the sector j that was flushed: nothing of it waits, nothing is on its way to it. -/
structure LsI (m : RM) (j : Nat) (X : ByteArray) (k : Nat) : Prop where
  ok : m.Ok 32
  wt : (m.wt j).size = 0
  ls : m.ls j = X
  way : m.way ≠ (j : Int)
  c1 : m.wrote ≤ k
  c2 : m.powers ≤ k
section
variable {m : RM} {j k k' : Nat} {X : ByteArray}
theorem LsI.more (h : LsI m j X k) (hk : k ≤ k') : LsI m j X k' := ⟨h.ok, h.wt, h.ls, h.way, Nat.le_trans h.c1 hk, Nat.le_trans h.c2 hk⟩
theorem LsI.go (h : LsI m j X k) : LsI m.goM j X k := by
  have hc := m.goM_cnt
  have hs : m.goM.wait = m.wait ∧ m.goM.last = m.last ∧ m.goM.way = m.way := by unfold RM.goM; split <;> (try split) <;> exact ⟨rfl, rfl, rfl⟩
  refine ⟨h.ok.go, ?_, ?_, by rw [hs.2.2]; exact h.way, by rw [hc.1]; exact h.c1, by rw [hc.2]; exact h.c2⟩
  · show (m.goM.wait.getD j emp).size = 0
    rw [hs.1]; exact h.wt
  · show m.goM.last.getD j emp = X
    rw [hs.2.1]; exact h.ls
theorem LsI.write (h : LsI m j X k) (hj : j < 32) (hk : k < 1073741824) (i : Int) (hi : i ≠ (j : Int)) (s : ByteArray) : LsI (m.writeM 32 i s) j X (k + 1) := by
  have hg := h.go
  have ok' := h.ok.write i s (by have := h.c1; omega)
  have hc := m.writeM_cnt 32 i s
  have h1 := h.c1
  have h2 := h.c2
  refine ⟨ok', ?_, ?_, ?_, by omega, by omega⟩
  · unfold RM.writeM
    split
    · rename_i hch
      split
      · show ((m.goM.wait.set i.toNat s).getD j emp).size = 0
        have hi0 : 0 ≤ i ∧ i < 32 := by
          unfold RM.chk at hch
          split at hch
          · cases hch
          · split at hch
            · cases hch
            · omega
        rw [getD_set _ _ _ _ (by rw [hg.ok.nw]; omega), if_neg (by omega)]
        exact hg.wt
      · exact hg.wt
    · exact h.wt
  · unfold RM.writeM
    split
    · split
      · exact hg.ls
      · exact hg.ls
    · exact h.ls
  · unfold RM.writeM
    split
    · split
      · exact hg.way
      · exact hi
    · exact h.way
theorem LsI.flush (h : LsI m j X k) : LsI (m.flushM 32) j X k := by
  have hg := h.go
  have hc := m.flushM_cnt 32
  have hat := m.goM.flK_at 32 hg.ok 32 j (Nat.le_refl _)
  have hr := m.goM.flK_rest 32
  refine ⟨h.ok.flush, ?_, ?_, ?_, by rw [hc.1]; exact h.c1, by rw [hc.2]; exact h.c2⟩
  · unfold RM.flushM
    split
    · exact h.wt
    · split
      · rw [hat.2, if_neg (fun e => e.2 hg.wt)]; exact hg.wt
      · exact hg.wt
  · unfold RM.flushM
    split
    · exact h.ls
    · split
      · rw [hat.1, if_neg (fun e => e.2 hg.wt)]; exact hg.ls
      · exact hg.ls
  · unfold RM.flushM
    split
    · exact h.way
    · split
      · rw [hr.2.1]; exact hg.way
      · exact hg.way
theorem LsI.arm (h : LsI m j X k) (a p : Int) (ha : a ≤ 9223372036854775807) : LsI (m.armM a p) j X k := ⟨h.ok.arm a p ha, h.wt, h.ls, h.way, h.c1, h.c2⟩
theorem LsI.power (h : LsI m j X k) (hj : j < 32) (hk : k < 1073741824) (keep : List Bool) : LsI (m.powerM 32 keep) j X (k + 1) := by
  have hc := m.powerM_cnt 32 keep
  have h1 := h.c1
  have h2 := h.c2
  refine ⟨h.ok.power keep (by omega), m.power_wt 32 h.ok keep j hj, ?_, ?_, by omega, by omega⟩
  · rw [m.power_ls 32 h.ok keep j hj, if_neg h.way, (m.pwK_at 32 h.ok keep 32 j (Nat.le_refl _)).1, if_neg (fun e => e.2.1 h.wt)]
    exact h.ls
  · show (-1 : Int) ≠ (j : Int)
    omega
end
theorem LsI.begun {j : Nat} {X : ByteArray} (hj : j < 32) (hX : X.size = 512) : LsI (tM2 false j X) j X 1 := by
  obtain ⟨h1, h2, h3, h4, h5, h6, h7⟩ := tM2_at (waits := false) hj hX
  refine ⟨tM2_ok hj, ?_, ?_, ?_, by omega, by omega⟩
  · by_cases hz : ((tM2 false j X).wt j).size = 0
    · exact hz
    · exact absurd (h1.1 hz) (by decide)
  · rw [h4, if_neg (by decide)]
  · have at1 := tM1_at hj hX
    unfold tM2
    rw [if_neg (by decide), ((tM1 j X).flush_ok 32 at1.2.2.2.1 (by rw [at1.2.2.2.2.1]; omega)).2, ((tM1 j X).flK_rest 32).2.1, at1.2.2.2.2.2.1]
    omega
theorem wpList_allocO {P : Program} {ops : Array Oper} {rest : List Oper} {o : Oper} {a : Act} {w : World} {Q : Exit → Act → World → Prop} (hg : o.guard = none) (t : TypeId) (ho : o.op = .alloc t) (cells : Array Value) (hz : (P.info? t).bind (·.zero) = some (.agg cells))
    (h : wpList P ops Q rest (a.put o.dst (.pointer (some ⟨w.heap.size, 0, none⟩))) (w.alloc (.cells cells t))) : wpList P ops Q (o :: rest) a w := by
  refine wpList_plain hg fun K hK => ?_
  cases hi : P.info? t with
  | none => simp [hi] at hz
  | some i =>
    simp only [hi, Option.bind_some] at hz
    unfold Oper.wp
    simp [execOp, ho, Instr.alloc, zeroValue, typeInfo, hi, hz, Result.andThen, newVar]
    exact hK _ _ h
theorem zeroOpI : (Try.prog.info? 32).bind (·.zero) = some (.agg zeroOp) := by kernel_rfl

set_option maxRecDepth 100000 in
set_option maxHeartbeats 40000000 in
theorem lasts_law (Z : DK) (z : Int) (A : Option Addr) (n c : Nat) (b : List UInt8) (A' : Option Addr) (n' c' : Nat) (ops : List OpR) (w : World) (hz : -9223372036854775808 ≤ z ∧ z ≤ 9223372036854775807)
    (h1 : HasB w w.heap.size A n b) (hc : n ≤ c) (hcm : c ≤ maxLen) (h2 : HasOps w w.heap.size A' n' ops) (hc' : n' ≤ c') (hcm' : c' ≤ maxLen) :
    Calls Try.prog 5 #[.int .i64 z, .slice A n c, .slice A' n' c'] w (RetTrue w) := by
  unfold maxLen at hcm hcm'
  have H1 := Lib.hid h1
  have H2 := Lib.hid h2
  have HZ := Lib.hid hz
  clear h1 h2 hz
  by_cases hb1 : 60 < n'
  · go_enter Try.func5, Try.ntmps5
    go_wp2_with (go_at_call 9; refine (begun5_any Z _).mono ?_; rintro e w1 ⟨rfl, b1⟩)
    go_ret
    exact ⟨rfl, b1⟩
  · by_cases hb2 : 512 < n
    · go_enter Try.func5, Try.ntmps5
      go_wp2_with (go_at_call 9; refine (begun5_any Z _).mono ?_; rintro e w1 ⟨rfl, b1⟩)
      go_ret
      exact ⟨rfl, b1⟩
    · have CN : Hid (∀ W, Calls Try.prog 11 #[.int .i64 32] W fun e w' => ∃ g S, e = .returned (.pointer (some ⟨g, 0, none⟩)) ∧ Z.D w' g S 32 (newM 32) ∧ (∀ k, S k → W.heap.size ≤ k) ∧ Below W.heap.size W w') := Lib.hid (fun W => Z.new_any W 32 (by omega) (by omega))
      go_enter Try.func5, Try.ntmps5
      go_wp2_with (first
        | (go_at_call 9; refine (begun5_any Z _).mono ?_; rintro e w1 ⟨rfl, b1⟩
           have B1 := Lib.hid b1
           clear b1)
        | (go_at_call 11; refine (CN.out _).mono ?_; rintro e w2 ⟨g, S2, rfl, d2, s2, b2⟩
           have D2 : Hid (OwD Z w w2 g S2 32 (newM 32)) := Lib.hid ⟨d2, fun k hk => Nat.le_trans B1.out.size (s2 k hk), B1.out.trans (b2.mono B1.out.size)⟩
           clear d2 s2 b2 B1)
        | (go_at_call 10; refine (place_any z 32 _ HZ.out (by omega) (by omega)).mono ?_; rintro e w2' ⟨⟨j, hj, rfl⟩, rfl⟩
           have TC := Lib.hid (torn_cs Z false false j b [] 0 0 hj rfl (by omega))
           have HJ := Lib.hid hj
           clear hj)
        | (go_at_call 20; refine (full_any A n c b _ w.heap.size (H1.out.below D2.out.bel) D2.out.bel.size).mono ?_; rintro e w21 ⟨A21, n21, c21, rfl, own21, b21⟩
           have D21 := Lib.hid (D2.out.below b21)
           have N21 := Lib.hid (own21.outside D2.out.slt)
           have hn21 := own21.len
           rw [fullL_len] at hn21
           subst hn21
           have cp21 := own21.caps.1
           clear own21 b21)
        | (go_at_call 23; refine (TC.out.w1 _ _ _ _ _ _ D21.out.d N21.out cp21 (by omega)).mono ?_; rintro e w3 L3
           obtain ⟨S3, D3⟩ := D21.out.step L3
           obtain ⟨rfl, _, _⟩ := L3
           have D3 := Lib.hid D3)
        | (go_at_call 24; refine (TC.out.fl _ _ _ D3.out.d).mono ?_; rintro e w4 L4
           obtain ⟨S4, D4⟩ := D3.out.step L4
           obtain ⟨rfl, _, _⟩ := L4
           have D4 := Lib.hid D4))
      obtain ⟨X, hX⟩ : ∃ X, strB (fullL b) = X := ⟨_, rfl⟩
      have hXs : X.size = 512 := by rw [← hX, strB_size, fullL_len]
      have LS0 := Lib.hid (LsI.begun HJ.out hXs)
      rw [hX] at D4
      have HX := Lib.hid hX
      clear D2 D21 N21 cp21 D3 TC CN hX hXs
      go_loopw [8] (fun x wr => ∃ (i : Nat) (S : Nat → Prop) (m : RM), x = .int .i64 (i : Int) ∧ i ≤ n' ∧ OwD Z w wr g S 32 m ∧ LsI m j X (i + 1)) (fun x _ => n' - (intOf x).toNat)
      case atStart => exact ⟨0, S4, _, rfl, by omega, D4.out, LS0.out⟩
      case round =>
        obtain ⟨i, S, m, rfl, hi, hd, hl⟩ := hrel
        clear D4 LS0
        have DD := Lib.hid hd
        have LS := Lib.hid hl
        clear hd hl
        by_cases hlt : i < n'
        · obtain ⟨op, hop⟩ : ∃ op, ops[i]? = some op := ⟨_, List.getElem?_eq_getElem (by have := H2.out.1; omega)⟩
          obtain ⟨g0, o0, rfl, hg0, hcells⟩ := H2.out.2 (by omega)
          have OA : Hid (OpAt w w.heap.size g0 o0 i op) := Lib.hid ⟨(hcells i op hop).1, (hcells i op hop).2, hg0⟩
          have OK3 : Hid (OpOk w w.heap.size op) := Lib.hid (hcells i op hop).1
          have LD := Lib.hid (load_op (W := wr) (g := g0) (o := o0 + i * 5) (op := op) (fun k v hk => by rw [show o0 + i * 5 + k = o0 + (5 * i + k) by omega]; exact (OA.out.below DD.out.bel).cells k v hk))
          have Z1 : Hid ((wr.alloc (.cells zeroOp 32)).heap[wr.heap.size]? = some (.cells zeroOp 32 (0, 0))) := Lib.hid (heap_alloc_new wr _)
          have kb1 := OK3.out.k1
          have kb2 := OK3.out.k2
          unfold maxLen at kb1 kb2
          have HK : Hid (∀ W, Below w.heap.size w W → HasNo W S op.A2 op.n2 op.keep) := Lib.hid (fun W hb => (OK3.out.hk.below hb).outside hb.size (fun k hk hs => absurd (DD.out.s0 k hs) (by omega)))
          have XS : Hid (¬ S wr.heap.size) := Lib.hid (fun hs => by have := DD.out.slt _ hs; omega)
          clear hop hcells
          go_upto_region 13 with (first
            | (refine wpList_loadG rfl 32 (.tmp 44) rfl ⟨g0, o0 + i * 5, none⟩ rfl _ LD.out ?_)
            | (refine wpList_allocO rfl 32 rfl _ zeroOpI ?_)
            | (refine wpList_store_row rfl 32 (.tmp 9) (.tmp 45) rfl wr.heap.size op.cells.toArray rfl rfl 32 _ Z1.out infoOp rfl (op_ones op) ?_))
          generalize hW : World.setRow _ _ op.cells.toArray = W3
          have BX : Hid (BoxAt W3 wr.heap.size op) := Lib.hid ⟨by rw [← hW]; exact setRow_heap _ _ _ _ 32 _ Z1.out⟩
          have B3 : Below wr.heap.size wr W3 := by rw [← hW]; exact below_setRow ((Below.refl _ _).alloc (Nat.le_refl _) _) (Nat.le_refl _) _
          have D3 := Lib.hid (DD.out.below B3)
          have k0 : W3.cell? ⟨wr.heap.size, 0, none⟩ = some (.int .i64 op.kind) := BX.out.cell 0
          have k1 : W3.cell? ⟨wr.heap.size, 1, none⟩ = some (.int .i64 op.i) := BX.out.i
          have k2 : W3.cell? ⟨wr.heap.size, 2, none⟩ = some (.int .i64 op.part) := BX.out.part
          have k3 : W3.cell? ⟨wr.heap.size, 3, none⟩ = some (.slice op.A1 op.n1 op.c1) := BX.out.bs
          have k4 : W3.cell? ⟨wr.heap.size, 4, none⟩ = some (.slice op.A2 op.n2 op.c2) := BX.out.ks
          clear hW B3 LD Z1 OA
          by_cases hb3 : 600 < op.n1
          · go_wp2_with fail
            go_ret
            exact ⟨rfl, D3.out.bel⟩
          · by_cases hb4 : 100 < op.n2
            · go_wp2_with fail
              go_ret
              exact ⟨rfl, D3.out.bel⟩
            · go_upto_region 16 with (go_at_call 10; refine (place_any _ 6 _ OK3.out.bk (by omega) (by omega)).mono ?_; rintro e w2 ⟨⟨q6, hq6, rfl⟩, rfl⟩)
              clear k0
              rcases (show q6 = 0 ∨ q6 = 1 ∨ q6 = 2 ∨ q6 = 3 ∨ q6 = 4 ∨ q6 = 5 by omega) with rfl | rfl | rfl | rfl | rfl | rfl
              · by_cases hij : op.i = (j : Int)
                · rw [hij] at k1
                  go_wp2_with fail
                  go_roundw
                  case rel => exact ⟨i + 1, S, m, by go_num, by omega, D3.out, LS.out.more (by omega)⟩
                  case measure => simp [intOf]; omega
                · obtain ⟨Y, hY⟩ : ∃ Y, strB (fullL op.b) = Y := ⟨_, rfl⟩
                  obtain ⟨q, hq⟩ : ∃ q, m.writeE 32 op.i Y = q := ⟨_, rfl⟩
                  have cw : ∀ W A q' c, Z.D W g S 32 m → HasN W S A q' (fullL op.b) → q' ≤ c → q' ≤ 1073741824 → Calls Try.prog 23 #[.pointer (some ⟨g, 0, none⟩), .int .i64 op.i, .slice A q' c] W (Left2 Z.D W g S 32 (.int .i64 q) (m.writeM 32 op.i Y)) := fun W A q' c d ha h1 h2 => by
                    have := Z.write_any op.i A q' c (fullL op.b) d LS.out.ok (by have := LS.out.c1; omega) OK3.out.bi ha h1 h2
                    rwa [hY, hq] at this
                  have CW := Lib.hid cw
                  have LS6 := Lib.hid (LS.out.write HJ.out (by omega) op.i hij Y)
                  clear cw hq hY
                  go_wp2_with fail
                  refine wp_region_held_drew (S := fun W => BoxAt W wr.heap.size op) (by kernel_rfl) BX.out.drew (fun hHeld => ?_)
                  refine wpAnyH_take (i := 0) (v := ?v0p) (by simp only [List.getElem?_toArray, List.getElem?_cons_succ, List.getElem?_cons_zero]; rfl) (by kernel_rfl) (by kernel_rfl) (by kernel_rfl) (by exact fun _ _ _ h => h) (Or.inl ⟨by rfl, ?h0p⟩) (by assumption) ?_
                  case h0p => (intro W hSw; (try dsimp only at hSw); go_simp; try with_reducible rfl)
                  try simp only [Act.put, List.setIfInBounds_toArray, List.set_cons_zero, List.set_cons_succ]
                  refine wpAnyH_take (i := 1) (v := ?v1p) (by simp only [List.getElem?_toArray, List.getElem?_cons_succ, List.getElem?_cons_zero]; rfl) (by kernel_rfl) (by kernel_rfl) (by kernel_rfl) (by exact fun _ _ _ h => h) (Or.inl ⟨by rfl, ?h1p⟩) (by assumption) ?_
                  case h1p => (intro W hSw; (try dsimp only at hSw); go_simp; try with_reducible rfl)
                  try simp only [Act.put, List.setIfInBounds_toArray, List.set_cons_zero, List.set_cons_succ]
                  refine wpAnyH_take (i := 3) (v := ?v3p) (by simp only [List.getElem?_toArray, List.getElem?_cons_succ, List.getElem?_cons_zero]; rfl) (by kernel_rfl) (by kernel_rfl) (by kernel_rfl) (by exact fun _ _ _ h => h) (Or.inl ⟨by rfl, ?h3p⟩) (by assumption) ?_
                  case h3p => (intro W hSw; (try dsimp only at hSw); go_simp; try with_reducible rfl)
                  try simp only [Act.put, List.setIfInBounds_toArray, List.set_cons_zero, List.set_cons_succ]
                  refine wpAnyH_take (i := 2) (by simp only [List.getElem?_toArray, List.getElem?_cons_succ, List.getElem?_cons_zero]; rfl) (by kernel_rfl) (by kernel_rfl) (by kernel_rfl) (by exact fun _ _ _ h => h) (yieldsIf_loadG (by rfl) 3 (.tmp 67) rfl ⟨wr.heap.size, 1, none⟩ rfl (.int .i64 op.i) (fun W hS => load_int (show BoxAt W wr.heap.size op from hS).i)) (by assumption) ?_
                  try simp only [Act.put, List.setIfInBounds_toArray, List.set_cons_zero, List.set_cons_succ]
                  refine wpAnyH_take (i := 4) (by simp only [List.getElem?_toArray, List.getElem?_cons_succ, List.getElem?_cons_zero]; rfl) (by kernel_rfl) (by kernel_rfl) (by kernel_rfl) (by exact fun _ _ _ h => h) (yieldsIf_loadG (by rfl) 29 (.tmp 69) rfl ⟨wr.heap.size, 3, none⟩ rfl (.slice op.A1 op.n1 op.c1) (fun W hS => load_bytes (show BoxAt W wr.heap.size op from hS).bs)) (by assumption) ?_
                  try simp only [Act.put, List.setIfInBounds_toArray, List.set_cons_zero, List.set_cons_succ]
                  refine wpAnyH_ready (rs := [5]) (by kernel_rfl) (by simp) ?_
                  refine AllReadyH.cons (by simp only [List.getElem?_toArray, List.getElem?_cons_succ, List.getElem?_cons_zero]; rfl) (fun K hK => ?_) AllReadyH.nil
                  go_simp
                  refine (full_any op.A1 op.n1 op.c1 op.b _ w.heap.size (OK3.out.hb.below D3.out.drew.bel) D3.out.drew.bel.size).mono ?_
                  rintro e w5 ⟨A5, n5, c5, rfl, own5, b5⟩
                  have D5 := Lib.hid (D3.out.drew.below b5)
                  have hS5 : BoxAt w5 wr.heap.size op := BX.out.drew.below b5
                  have N5 := Lib.hid (own5.outside D3.out.drew.slt)
                  have hn5 := own5.len
                  rw [fullL_len] at hn5
                  subst hn5
                  have cp5 := own5.caps.1
                  refine hK _ _ hS5 (fun hH5 => ?_)
                  clear hK K
                  try simp only [Act.put, List.setIfInBounds_toArray, List.set_cons_zero, List.set_cons_succ]
                  refine wpAnyH_ready (rs := [6]) (by kernel_rfl) (by simp) ?_
                  refine AllReadyH.cons (by simp only [List.getElem?_toArray, List.getElem?_cons_succ, List.getElem?_cons_zero]; rfl) (fun K hK => ?_) AllReadyH.nil
                  go_simp
                  refine (CW.out _ _ _ _ D5.out.d N5.out cp5 (by omega)).mono ?_
                  rintro e w6 L6
                  have hS6 : BoxAt w6 wr.heap.size op := hS5.only L6.2.2 XS.out
                  obtain ⟨S6, D6⟩ := D5.out.step L6
                  obtain ⟨rfl, _, _⟩ := L6
                  have D6 := Lib.hid D6
                  refine hK _ _ hS6 (fun hH6 => ?_)
                  clear hK K
                  try simp only [Act.put, List.setIfInBounds_toArray, List.set_cons_zero, List.set_cons_succ]
                  refine wpAnyH_done (by kernel_rfl) ?_ _
                  go_wp2_with fail
                  go_roundw
                  case rel => exact ⟨i + 1, S6, _, by go_num, by omega, D6.out, LS6.out⟩
                  case measure => simp [intOf]; omega
              · by_cases hij : op.i = (j : Int)
                · rw [hij] at k1
                  go_wp2_with fail
                  go_roundw
                  case rel => exact ⟨i + 1, S, m, by go_num, by omega, D3.out, LS.out.more (by omega)⟩
                  case measure => simp [intOf]; omega
                · obtain ⟨Y, hY⟩ : ∃ Y, strB (fullL op.b) = Y := ⟨_, rfl⟩
                  obtain ⟨q, hq⟩ : ∃ q, m.writeE 32 op.i Y = q := ⟨_, rfl⟩
                  have cw : ∀ W A q' c, Z.D W g S 32 m → HasN W S A q' (fullL op.b) → q' ≤ c → q' ≤ 1073741824 → Calls Try.prog 23 #[.pointer (some ⟨g, 0, none⟩), .int .i64 op.i, .slice A q' c] W (Left2 Z.D W g S 32 (.int .i64 q) (m.writeM 32 op.i Y)) := fun W A q' c d ha h1 h2 => by
                    have := Z.write_any op.i A q' c (fullL op.b) d LS.out.ok (by have := LS.out.c1; omega) OK3.out.bi ha h1 h2
                    rwa [hY, hq] at this
                  have CW := Lib.hid cw
                  have LS6 := Lib.hid (LS.out.write HJ.out (by omega) op.i hij Y)
                  clear cw hq hY
                  go_wp2_with fail
                  refine wp_region_held_drew (S := fun W => BoxAt W wr.heap.size op) (by kernel_rfl) BX.out.drew (fun hHeld => ?_)
                  refine wpAnyH_take (i := 0) (v := ?v0q) (by simp only [List.getElem?_toArray, List.getElem?_cons_succ, List.getElem?_cons_zero]; rfl) (by kernel_rfl) (by kernel_rfl) (by kernel_rfl) (by exact fun _ _ _ h => h) (Or.inl ⟨by rfl, ?h0q⟩) (by assumption) ?_
                  case h0q => (intro W hSw; (try dsimp only at hSw); go_simp; try with_reducible rfl)
                  try simp only [Act.put, List.setIfInBounds_toArray, List.set_cons_zero, List.set_cons_succ]
                  refine wpAnyH_take (i := 1) (v := ?v1q) (by simp only [List.getElem?_toArray, List.getElem?_cons_succ, List.getElem?_cons_zero]; rfl) (by kernel_rfl) (by kernel_rfl) (by kernel_rfl) (by exact fun _ _ _ h => h) (Or.inl ⟨by rfl, ?h1q⟩) (by assumption) ?_
                  case h1q => (intro W hSw; (try dsimp only at hSw); go_simp; try with_reducible rfl)
                  try simp only [Act.put, List.setIfInBounds_toArray, List.set_cons_zero, List.set_cons_succ]
                  refine wpAnyH_take (i := 3) (v := ?v3q) (by simp only [List.getElem?_toArray, List.getElem?_cons_succ, List.getElem?_cons_zero]; rfl) (by kernel_rfl) (by kernel_rfl) (by kernel_rfl) (by exact fun _ _ _ h => h) (Or.inl ⟨by rfl, ?h3q⟩) (by assumption) ?_
                  case h3q => (intro W hSw; (try dsimp only at hSw); go_simp; try with_reducible rfl)
                  try simp only [Act.put, List.setIfInBounds_toArray, List.set_cons_zero, List.set_cons_succ]
                  refine wpAnyH_take (i := 2) (by simp only [List.getElem?_toArray, List.getElem?_cons_succ, List.getElem?_cons_zero]; rfl) (by kernel_rfl) (by kernel_rfl) (by kernel_rfl) (by exact fun _ _ _ h => h) (yieldsIf_loadG (by rfl) 3 (.tmp 67) rfl ⟨wr.heap.size, 1, none⟩ rfl (.int .i64 op.i) (fun W hS => load_int (show BoxAt W wr.heap.size op from hS).i)) (by assumption) ?_
                  try simp only [Act.put, List.setIfInBounds_toArray, List.set_cons_zero, List.set_cons_succ]
                  refine wpAnyH_take (i := 4) (by simp only [List.getElem?_toArray, List.getElem?_cons_succ, List.getElem?_cons_zero]; rfl) (by kernel_rfl) (by kernel_rfl) (by kernel_rfl) (by exact fun _ _ _ h => h) (yieldsIf_loadG (by rfl) 29 (.tmp 69) rfl ⟨wr.heap.size, 3, none⟩ rfl (.slice op.A1 op.n1 op.c1) (fun W hS => load_bytes (show BoxAt W wr.heap.size op from hS).bs)) (by assumption) ?_
                  try simp only [Act.put, List.setIfInBounds_toArray, List.set_cons_zero, List.set_cons_succ]
                  refine wpAnyH_ready (rs := [5]) (by kernel_rfl) (by simp) ?_
                  refine AllReadyH.cons (by simp only [List.getElem?_toArray, List.getElem?_cons_succ, List.getElem?_cons_zero]; rfl) (fun K hK => ?_) AllReadyH.nil
                  go_simp
                  refine (full_any op.A1 op.n1 op.c1 op.b _ w.heap.size (OK3.out.hb.below D3.out.drew.bel) D3.out.drew.bel.size).mono ?_
                  rintro e w5 ⟨A5, n5, c5, rfl, own5, b5⟩
                  have D5 := Lib.hid (D3.out.drew.below b5)
                  have hS5 : BoxAt w5 wr.heap.size op := BX.out.drew.below b5
                  have N5 := Lib.hid (own5.outside D3.out.drew.slt)
                  have hn5 := own5.len
                  rw [fullL_len] at hn5
                  subst hn5
                  have cp5 := own5.caps.1
                  refine hK _ _ hS5 (fun hH5 => ?_)
                  clear hK K
                  try simp only [Act.put, List.setIfInBounds_toArray, List.set_cons_zero, List.set_cons_succ]
                  refine wpAnyH_ready (rs := [6]) (by kernel_rfl) (by simp) ?_
                  refine AllReadyH.cons (by simp only [List.getElem?_toArray, List.getElem?_cons_succ, List.getElem?_cons_zero]; rfl) (fun K hK => ?_) AllReadyH.nil
                  go_simp
                  refine (CW.out _ _ _ _ D5.out.d N5.out cp5 (by omega)).mono ?_
                  rintro e w6 L6
                  have hS6 : BoxAt w6 wr.heap.size op := hS5.only L6.2.2 XS.out
                  obtain ⟨S6, D6⟩ := D5.out.step L6
                  obtain ⟨rfl, _, _⟩ := L6
                  have D6 := Lib.hid D6
                  refine hK _ _ hS6 (fun hH6 => ?_)
                  clear hK K
                  try simp only [Act.put, List.setIfInBounds_toArray, List.set_cons_zero, List.set_cons_succ]
                  refine wpAnyH_done (by kernel_rfl) ?_ _
                  go_wp2_with fail
                  go_roundw
                  case rel => exact ⟨i + 1, S6, _, by go_num, by omega, D6.out, LS6.out⟩
                  case measure => simp [intOf]; omega
              · have CC := Lib.hid (fun W (d : Z.D W g S 32 m) => Z.flush_any d LS.out.ok)
                have LS6 := Lib.hid (LS.out.flush.more (Nat.le_succ _))
                go_wp2_with (go_at_call 24; refine (CC.out _ D3.out.d).mono ?_; rintro e w6 L6
                             obtain ⟨S6, D6⟩ := D3.out.step L6
                             obtain ⟨rfl, _, _⟩ := L6
                             have D6 := Lib.hid D6)
                go_roundw
                case rel => exact ⟨i + 1, S6, _, by go_num, by omega, D6.out, LS6.out⟩
                case measure => simp [intOf]; omega
              · have CC := Lib.hid (fun W (d : Z.D W g S 32 m) => Z.arm_any op.i op.part d LS.out.ok OK3.out.bi OK3.out.bp)
                have LS6 := Lib.hid ((LS.out.arm op.i op.part OK3.out.bi.2).more (Nat.le_succ _))
                go_wp2_with (go_at_call 25; refine (CC.out _ D3.out.d).mono ?_; rintro e w6 L6
                             obtain ⟨S6, D6⟩ := D3.out.step L6
                             obtain ⟨rfl, _, _⟩ := L6
                             have D6 := Lib.hid D6)
                go_roundw
                case rel => exact ⟨i + 1, S6, _, by go_num, by omega, D6.out, LS6.out⟩
                case measure => simp [intOf]; omega
              · have CC := Lib.hid (fun W (d : Z.D W g S 32 m) (hk : HasNo W S op.A2 op.n2 op.keep) => Z.power_any op.A2 op.n2 op.c2 op.keep d LS.out.ok (by have := LS.out.c2; omega) hk kb2.1 (by omega))
                have LS6 := Lib.hid (LS.out.power HJ.out (by omega) op.keep)
                go_wp2_with (go_at_call 16; refine (CC.out _ D3.out.d (HK.out _ D3.out.bel)).mono ?_; rintro e w6 L6
                             obtain ⟨S6, D6⟩ := D3.out.step L6
                             obtain ⟨rfl, _, _⟩ := L6
                             have D6 := Lib.hid D6)
                go_roundw
                case rel => exact ⟨i + 1, S6, _, by go_num, by omega, D6.out, LS6.out⟩
                case measure => simp [intOf]; omega
              · go_wp2_with fail
                go_roundw
                case rel => exact ⟨i + 1, S, m, by go_num, by omega, D3.out, LS.out.more (by omega)⟩
                case measure => simp [intOf]; omega
        · obtain rfl : i = n' := by omega
          have CP := Lib.hid (fun W (d : Z.D W g S 32 m) => Z.power_any none 0 0 [] d LS.out.ok (by have := LS.out.c2; omega) (HasNo.nil W S none) (Nat.le_refl _) (by omega))
          have LS7 := Lib.hid (LS.out.power HJ.out (by omega) [])
          have cr : ∀ W S7, Z.D W g S7 32 (m.powerM 32 []) → Calls Try.prog 18 #[.pointer (some ⟨g, 0, none⟩), .int .i64 (j : Int)] W (RetXE W (fullL b) 0) := fun W S7 d => by
            have hr := (m.powerM 32 []).read_at 32 j rfl HJ.out LS7.out.wt
            have := Z.read_any (j : Int) d LS7.out.ok (by have := HJ.out; omega)
            rw [hr.1, hr.2, LS7.out.ls] at this
            rwa [show lst X = fullL b by rw [← HX.out]; simp [lst, strB]] at this
          have CR := Lib.hid cr
          clear cr hlt
          go_upto_region 28 with (first
            | (go_at_call 16; refine (CP.out _ DD.out.d).mono ?_; rintro e w7 L7
               obtain ⟨S7, D7⟩ := DD.out.step L7
               obtain ⟨rfl, _, _⟩ := L7
               have D7 := Lib.hid D7)
            | (go_at_call 18; refine (CR.out _ _ D7.out.d).mono ?_; rintro e w9 ⟨A9, n9, c9, rfl, own9, b9⟩
               have D9 := Lib.hid (D7.out.below b9)
               have O9 := Lib.hid own9
               clear own9 b9))
          have B9 := Lib.hid D9.out.bel
          obtain ⟨FB, hFB⟩ : ∃ l, fullL b = l := ⟨_, rfl⟩
          have HFB := Lib.hid hFB
          have HC : Hid (∀ W, Below w9.heap.size w9 W → (convert 29 9 (.slice A9 n9 c9)).run Try.prog W = .ok (.string ⟨FB.toArray⟩) W) := Lib.hid (fun W hW => by
            have := run_conv (P := Try.prog) Try.underlying29 Try.underlying5 Try.underlying9 _ A9 n9 c9 _ (O9.out.below hW).has
            rwa [hFB] at this)
          clear hFB
          refine wp_region_held_drew (S := fun W => Below w9.heap.size w9 W) (by kernel_rfl) (Below.refl _ _).drew (fun hHeld => ?_)
          refine wpAnyH_take (i := 0) (v := ?v0z) (by simp only [List.getElem?_toArray, List.getElem?_cons_succ, List.getElem?_cons_zero]; rfl) (by kernel_rfl) (by kernel_rfl) (by kernel_rfl) (by exact fun _ _ _ h => h) (Or.inl ⟨by rfl, ?h0z⟩) (by assumption) ?_
          case h0z => (intro W hSw; (try dsimp only at hSw); go_simp; try with_reducible rfl)
          try simp only [Act.put, List.setIfInBounds_toArray, List.set_cons_zero, List.set_cons_succ]
          refine wpAnyH_take (i := 1) (v := ?v1z) (by simp only [List.getElem?_toArray, List.getElem?_cons_succ, List.getElem?_cons_zero]; rfl) (by kernel_rfl) (by kernel_rfl) (by kernel_rfl) (by exact fun _ _ _ h => h) (Or.inl ⟨by rfl, ?h1z⟩) (by assumption) ?_
          case h1z => (intro W hSw; (try dsimp only at hSw); go_simp; try with_reducible rfl)
          try simp only [Act.put, List.setIfInBounds_toArray, List.set_cons_zero, List.set_cons_succ]
          refine wpAnyH_take (i := 2) (v := ?v2z) (by simp only [List.getElem?_toArray, List.getElem?_cons_succ, List.getElem?_cons_zero]; rfl) (by kernel_rfl) (by kernel_rfl) (by kernel_rfl) (by exact fun _ _ _ h => h) (Or.inl ⟨by rfl, ?h2z⟩) (by assumption) ?_
          case h2z => (intro W hSw; (try dsimp only at hSw); go_simp; try with_reducible rfl)
          try simp only [Act.put, List.setIfInBounds_toArray, List.set_cons_zero, List.set_cons_succ]
          refine wpAnyH_take (i := 3) (v := ?v3z) (by simp only [List.getElem?_toArray, List.getElem?_cons_succ, List.getElem?_cons_zero]; rfl) (by kernel_rfl) (by kernel_rfl) (by kernel_rfl) (by exact fun _ _ _ h => h) (Or.inl ⟨by rfl, ?h3z⟩) (by assumption) ?_
          case h3z => (intro W hSw; (try dsimp only at hSw); go_simp; try with_reducible rfl)
          try simp only [Act.put, List.setIfInBounds_toArray, List.set_cons_zero, List.set_cons_succ]
          refine wpAnyH_take (i := 5) (v := ?v5z) (by simp only [List.getElem?_toArray, List.getElem?_cons_succ, List.getElem?_cons_zero]; rfl) (by kernel_rfl) (by kernel_rfl) (by kernel_rfl) (by exact fun _ _ _ h => h) (Or.inl ⟨by rfl, ?h5z⟩) (by assumption) ?_
          case h5z => (intro W hSw; (try dsimp only at hSw); go_simp; try with_reducible rfl)
          try simp only [Act.put, List.setIfInBounds_toArray, List.set_cons_zero, List.set_cons_succ]
          refine wpAnyH_take (i := 4) (by simp only [List.getElem?_toArray, List.getElem?_cons_succ, List.getElem?_cons_zero]; rfl) (by kernel_rfl) (by kernel_rfl) (by kernel_rfl) (by exact fun _ _ _ h => h) (yieldsIf_conv (by rfl) 29 9 (.tmp 102) rfl _ (.string ⟨FB.toArray⟩) rfl (fun W hS => HC.out W hS)) (by assumption) ?_
          try simp only [Act.put, List.setIfInBounds_toArray, List.set_cons_zero, List.set_cons_succ]
          refine wpAnyH_ready (rs := [6]) (by kernel_rfl) (by simp) ?_
          refine AllReadyH.cons (by simp only [List.getElem?_toArray, List.getElem?_cons_succ, List.getElem?_cons_zero]; rfl) (fun K hK => ?_) AllReadyH.nil
          go_simp
          refine (full_any A n c b _ w.heap.size (H1.out.below (B9.out.trans (hHeld.mono B9.out.size))) (Nat.le_trans B9.out.size hHeld.size)).mono ?_
          rintro e v6 ⟨A6, n6, c6, rfl, own6, b6⟩
          have hcv := run_conv (P := Try.prog) Try.underlying29 Try.underlying5 Try.underlying9 _ A6 n6 c6 _ own6.has
          rw [HFB.out] at hcv
          have hS6 : Below w9.heap.size w9 v6 := Below.trans hHeld (b6.mono hHeld.size)
          refine hK _ _ hS6 (fun hH6 => ?_)
          clear hK K
          try simp only [Act.put, List.setIfInBounds_toArray, List.set_cons_zero, List.set_cons_succ]
          refine wpAnyH_ready (rs := [7]) (by kernel_rfl) (by simp) ?_
          refine AllReadyH.cons (by simp only [List.getElem?_toArray, List.getElem?_cons_succ, List.getElem?_cons_zero]; rfl) (fun K hK => ?_) AllReadyH.nil
          refine step_convG (by rfl) 29 9 (.tmp 105) rfl _ (.string ⟨FB.toArray⟩) rfl hcv ?_
          have hS7 := hS6
          refine hK _ _ hS7 (fun hH7 => ?_)
          clear hK K
          try simp only [Act.put, List.setIfInBounds_toArray, List.set_cons_zero, List.set_cons_succ]
          refine wpAnyH_take (i := 8) (by simp only [List.getElem?_toArray, List.getElem?_cons_succ, List.getElem?_cons_zero]; rfl) (by kernel_rfl) (by kernel_rfl) (by kernel_rfl) (by exact fun _ _ _ h => h) (yieldsIf_binG (by rfl) .eql 9 9 (.tmp 103) (.tmp 106) rfl _ _ (.bool true) rfl rfl (fun W => guard_str _ _ _ _ W) (fun W => eql_self _ W)) (by assumption) ?_
          try simp only [Act.put, List.setIfInBounds_toArray, List.set_cons_zero, List.set_cons_succ]
          refine wpAnyH_take (i := 9) (v := ?v9z) (by simp only [List.getElem?_toArray, List.getElem?_cons_succ, List.getElem?_cons_zero]; rfl) (by kernel_rfl) (by kernel_rfl) (by kernel_rfl) (by exact fun _ _ _ h => h) (Or.inl ⟨by rfl, ?h9z⟩) (by assumption) ?_
          case h9z => (intro W hSw; (try dsimp only at hSw); go_simp; try with_reducible rfl)
          try simp only [Act.put, List.setIfInBounds_toArray, List.set_cons_zero, List.set_cons_succ]
          refine wpAnyH_take (i := 10) (v := ?v10z) (by simp only [List.getElem?_toArray, List.getElem?_cons_succ, List.getElem?_cons_zero]; rfl) (by kernel_rfl) (by kernel_rfl) (by kernel_rfl) (by exact fun _ _ _ h => h) (Or.inl ⟨by rfl, ?h10z⟩) (by assumption) ?_
          case h10z => (intro W hSw; (try dsimp only at hSw); go_simp; try with_reducible rfl)
          try simp only [Act.put, List.setIfInBounds_toArray, List.set_cons_zero, List.set_cons_succ]
          refine wpAnyH_done (by kernel_rfl) ?_ _
          go_wp2_with fail
          go_ret
          exact ⟨rfl, B9.out.trans (hS7.mono B9.out.size)⟩
end Go.Proofs.Ytpnmcdpekfibjaa
