/-
  Own work. DiskCopies walked over a disk by its contracts.
-/
import Derived.Test.YtpnmcdpekfibjaaDa5
namespace Go.Proofs.Ytpnmcdpekfibjaa
open Go.RowKit
set_option linter.unusedVariables false
set_option linter.unusedSimpArgs false

def zeroOp : Array Value := #[.int .i64 0, .int .i64 0, .int .i64 0, .slice none 0 0, .slice none 0 0]
theorem builtOp : Try.prog.built 32 [] = some zeroOp := by kernel_rfl
theorem infoOp : (Try.prog.info? 32).map (·.size) = some 5 := by kernel_rfl
theorem op_ones (o : OpR) : (o.cells.toArray).all (·.oneCell') = true := by
  simp [OpR.cells, Value.oneCell']
theorem zero_ones : zeroOp.all (·.oneCell') = true := by
  rw [Array.all_eq_true]
  intro i hi
  have hm : zeroOp[i] ∈ zeroOp := Array.getElem_mem hi
  revert hm
  generalize zeroOp[i] = v
  intro hm
  simp only [zeroOp, List.mem_toArray, List.mem_cons, List.not_mem_nil, or_false] at hm
  rcases hm with rfl | rfl | rfl | rfl | rfl <;> rfl
/-- An operation that is not too long. -/
structure OpSm (o : OpR) : Prop where
  s1 : o.n1 ≤ 600
  s2 : o.n2 ≤ 100
def AllSm (ops : List OpR) (k : Nat) : Prop := ∀ j op, j < k → ops[j]? = some op → OpSm op

set_option maxRecDepth 100000 in
set_option maxHeartbeats 4000000 in
theorem copies_law (Z : DK) (A : Option Addr) (n c : Nat) (ops : List OpR) (A' : Option Addr) (n' c' : Nat) (more : List OpR) (w : World) (h1 : HasOps w w.heap.size A n ops) (hc : n ≤ c) (hcm : c ≤ maxLen) (h2 : HasOps w w.heap.size A' n' more) (hc' : n' ≤ c') (hcm' : c' ≤ maxLen) :
    Calls Try.prog 7 #[.slice A n c, .slice A' n' c'] w (RetTrue w) := by
  unfold maxLen at hcm hcm'
  have H1 := Lib.hid h1
  have H2 := Lib.hid h2
  clear h1 h2
  by_cases hbig : 40 < n
  · go_enter Try.func7, Try.ntmps7
    go_wp2_with (go_at_call 9; refine (begun5_any Z _).mono ?_; rintro e w1 ⟨rfl, b1⟩)
    go_ret
    exact ⟨rfl, b1⟩
  · by_cases hbig' : 40 < n'
    · go_enter Try.func7, Try.ntmps7
      go_wp2_with (go_at_call 9; refine (begun5_any Z _).mono ?_; rintro e w1 ⟨rfl, b1⟩)
      go_ret
      exact ⟨rfl, b1⟩
    · have CN : Hid (∀ W, Calls Try.prog 11 #[.int .i64 32] W fun e w' => ∃ g S, e = .returned (.pointer (some ⟨g, 0, none⟩)) ∧ Z.D w' g S 32 (newM 32) ∧ (∀ k, S k → W.heap.size ≤ k) ∧ Below W.heap.size W w') := Lib.hid (fun W => Z.new_any W 32 (by omega) (by omega))
      have CM : Hid (∀ W, Calls Try.prog 12 #[.int .i64 32] W fun e w' => ∃ g gl gw cl cw, e = .returned (.pointer (some ⟨g, 0, none⟩)) ∧ RefD w' g gl gw 32 cl cw (newM 32) ∧ W.heap.size ≤ g ∧ W.heap.size ≤ gl ∧ W.heap.size ≤ gw ∧ Below W.heap.size W w') := Lib.hid (fun W => rnew_any W 32 (by omega) (by omega))
      go_enter Try.func7, Try.ntmps7
      go_wp2_with (first
        | (go_at_call 9; refine (begun5_any Z _).mono ?_; rintro e w1 ⟨rfl, b1⟩
           have B1 := Lib.hid b1
           clear b1)
        | (go_at_call 11; refine (CN.out _).mono ?_; rintro e w3 ⟨g, S1, rfl, d1, s1, b3⟩
           have D3 : Hid (OwD Z w w3 g S1 32 (newM 32)) := Lib.hid ⟨d1, fun k hk => Nat.le_trans B1.out.size (s1 k hk), B1.out.trans (b3.mono B1.out.size)⟩
           clear d1 s1 b3)
        | (go_at_call 12; refine (CM.out _).mono ?_; rintro e w4 ⟨h, hl, hw, cl, cw, rfl, r4, q1, q2, q3, b4⟩))
      have P4 : Pair Z w4 g S1 h hl hw 32 cl cw (newM 32) := ⟨(D3.out.below b4).d, r4, by
        rintro k hk (rfl | rfl | rfl)
        · have := D3.out.slt _ hk; omega
        · have := D3.out.slt _ hk; omega
        · have := D3.out.slt _ hk; omega, newM_ok 32 (by omega) (by omega)⟩
      have A4 : ∀ k, Both S1 h hl hw k → w.heap.size ≤ k := by
        have h1 := D3.out.bel.size
        rintro k (hk | hk)
        · exact D3.out.s0 k hk
        · rcases hk with rfl | rfl | rfl <;> omega
      have B4 := Lib.hid (D3.out.below b4).bel
      have PH4 := Lib.hid P4
      have AH4 := Lib.hid A4
      clear P4 A4
      clear b4 r4 q1 q2 q3 D3 B1 CN CM
      go_loopw [7] (fun x wr => ∃ i : Nat, x = .int .i64 (i : Int) ∧ i ≤ n + n' ∧ Below w4.heap.size w4 wr ∧ AllSm (ops ++ more) i) (fun x _ => n + n' - (intOf x).toNat)
      case atStart => exact ⟨0, rfl, by omega, Below.refl _ _, fun j op hj => absurd hj (by omega)⟩
      case round =>
        obtain ⟨i, rfl, hi, hbel, hsm⟩ := hrel
        have BR := Lib.hid hbel
        have SM := Lib.hid hsm
        clear hbel hsm
        by_cases hlt : i < n + n'
        · obtain ⟨op, hop, hok, LD⟩ : ∃ op, (ops ++ more)[i]? = some op ∧ OpOk w w.heap.size op ∧ ((i < n ∧ ∃ g0 o0, A = some ⟨g0, o0, none⟩ ∧ Hid (OpAt w w.heap.size g0 o0 i op)) ∨ (n ≤ i ∧ ∃ g0 o0, A' = some ⟨g0, o0, none⟩ ∧ Hid (OpAt w w.heap.size g0 o0 (i - n) op))) := by
            have e1 := H1.out.1
            have e2 := H2.out.1
            by_cases hin : i < n
            · obtain ⟨op, hop⟩ : ∃ op, ops[i]? = some op := ⟨_, List.getElem?_eq_getElem (by omega)⟩
              obtain ⟨g0, o0, e0, hg0, hcells⟩ := H1.out.2 (by omega)
              exact ⟨op, by rw [List.getElem?_append_left (by omega)]; exact hop, (hcells i op hop).1, .inl ⟨hin, g0, o0, e0, Lib.hid ⟨(hcells i op hop).1, (hcells i op hop).2, hg0⟩⟩⟩
            · obtain ⟨op, hop⟩ : ∃ op, more[i - n]? = some op := ⟨_, List.getElem?_eq_getElem (by omega)⟩
              obtain ⟨g0, o0, e0, hg0, hcells⟩ := H2.out.2 (by omega)
              exact ⟨op, by rw [List.getElem?_append_right (by omega), ← e1]; exact hop, (hcells _ op hop).1, .inr ⟨by omega, g0, o0, e0, Lib.hid ⟨(hcells _ op hop).1, (hcells _ op hop).2, hg0⟩⟩⟩
          have HOP := Lib.hid hop
          have HOK := Lib.hid hok
          clear hop hok
          have BW := Lib.hid (B4.out.trans (BR.out.mono B4.out.size))
          have Z1 : Hid ((wr.alloc (.cells zeroOp 32)).heap[wr.heap.size]? = some (.cells zeroOp 32 (0, 0))) := Lib.hid (heap_alloc_new wr _)
          have Z2 : Hid (((wr.alloc (.cells zeroOp 32)).setRow wr.heap.size zeroOp).heap[wr.heap.size]? = some (.cells zeroOp 32 (0, 0))) := Lib.hid (setRow_heap _ _ _ _ 32 _ Z1.out)
          have BL : Hid (Below wr.heap.size wr ((wr.alloc (.cells zeroOp 32)).setRow wr.heap.size zeroOp)) := Lib.hid (below_setRow ((Below.refl _ _).alloc (Nat.le_refl _) _) (Nat.le_refl _) _)
          rcases LD with LD | LD
          · obtain ⟨hin, g0, o0, rfl, OA⟩ := LD
            have LD2 := Lib.hid (load_op (W := (wr.alloc (.cells zeroOp 32)).setRow wr.heap.size zeroOp) (g := g0) (o := o0 + i * 5) (op := op) (fun k v hk => by rw [show o0 + i * 5 + k = o0 + (5 * i + k) by omega]; exact (OA.out.below (BW.out.trans (BL.out.mono BW.out.size))).cells k v hk))
            go_upto_region 13 with (first
              | (refine wpList_buildG rfl 32 rfl zeroOp builtOp ?_)
              | (refine wpList_store_row rfl 32 (.tmp 8) (.tmp 34) rfl wr.heap.size zeroOp rfl rfl 32 _ Z1.out infoOp rfl zero_ones ?_)
              | (refine wpList_loadG rfl 32 (.tmp 41) rfl ⟨g0, o0 + i * 5, none⟩ rfl _ LD2.out ?_)
              | (refine wpList_store_row rfl 32 (.tmp 8) (.tmp 42) rfl wr.heap.size op.cells.toArray rfl rfl 32 _ Z2.out infoOp rfl (op_ones op) ?_))
            generalize hW : World.setRow _ _ op.cells.toArray = W3
            have BX : BoxAt W3 wr.heap.size op := ⟨by rw [← hW]; exact setRow_heap _ _ _ _ 32 _ Z2.out⟩
            have B3 : Below wr.heap.size wr W3 := by rw [← hW]; exact below_setRow BL.out (Nat.le_refl _) _
            have k3 : W3.cell? ⟨wr.heap.size, 3, none⟩ = some (.slice op.A1 op.n1 op.c1) := BX.bs
            have k4 : W3.cell? ⟨wr.heap.size, 4, none⟩ = some (.slice op.A2 op.n2 op.c2) := BX.ks
            have B3 := Lib.hid (BR.out.trans (B3.mono BR.out.size))
            clear hW BX
            by_cases hb1 : 600 < op.n1
            · go_wp2_with fail
              go_ret
              exact ⟨rfl, B4.out.trans (B3.out.mono B4.out.size)⟩
            · by_cases hb2 : 100 < op.n2
              · go_wp2_with fail
                go_ret
                exact ⟨rfl, B4.out.trans (B3.out.mono B4.out.size)⟩
              · go_wp2_with fail
                go_roundw
                case rel =>
                  refine ⟨i + 1, by go_num, by omega, B3.out, fun q op' hq hop' => ?_⟩
                  rcases Nat.lt_succ_iff_lt_or_eq.1 hq with hq2 | rfl
                  · exact SM.out q op' hq2 hop'
                  · rw [HOP.out] at hop'
                    injection hop' with hop'
                    exact hop' ▸ ⟨by omega, by omega⟩
                case measure => simp [intOf]; omega
          · obtain ⟨hin, g0, o0, rfl, OA⟩ := LD
            obtain ⟨j, hj⟩ : ∃ j, i - n = j := ⟨_, rfl⟩
            have hjs : (i : Int) - (n : Int) = (j : Int) := by omega
            have hjn : j < n' := by omega
            rw [hj] at OA
            have hni : ¬ i < n := by omega
            clear hj hin
            have LD2 := Lib.hid (load_op (W := (wr.alloc (.cells zeroOp 32)).setRow wr.heap.size zeroOp) (g := g0) (o := o0 + j * 5) (op := op) (fun k v hk => by rw [show o0 + j * 5 + k = o0 + (5 * j + k) by omega]; exact (OA.out.below (BW.out.trans (BL.out.mono BW.out.size))).cells k v hk))
            go_upto_region 13 with (first
              | (refine wpList_buildG rfl 32 rfl zeroOp builtOp ?_)
              | (refine wpList_store_row rfl 32 (.tmp 8) (.tmp 34) rfl wr.heap.size zeroOp rfl rfl 32 _ Z1.out infoOp rfl zero_ones ?_)
              | (refine wpList_loadG rfl 32 (.tmp 48) rfl ⟨g0, o0 + j * 5, none⟩ rfl _ LD2.out ?_)
              | (refine wpList_store_row rfl 32 (.tmp 8) (.tmp 49) rfl wr.heap.size op.cells.toArray rfl rfl 32 _ Z2.out infoOp rfl (op_ones op) ?_))
            generalize hW : World.setRow _ _ op.cells.toArray = W3
            have BX : BoxAt W3 wr.heap.size op := ⟨by rw [← hW]; exact setRow_heap _ _ _ _ 32 _ Z2.out⟩
            have B3 : Below wr.heap.size wr W3 := by rw [← hW]; exact below_setRow BL.out (Nat.le_refl _) _
            have k3 : W3.cell? ⟨wr.heap.size, 3, none⟩ = some (.slice op.A1 op.n1 op.c1) := BX.bs
            have k4 : W3.cell? ⟨wr.heap.size, 4, none⟩ = some (.slice op.A2 op.n2 op.c2) := BX.ks
            have B3 := Lib.hid (BR.out.trans (B3.mono BR.out.size))
            clear hW BX
            by_cases hb1 : 600 < op.n1
            · go_wp2_with fail
              go_ret
              exact ⟨rfl, B4.out.trans (B3.out.mono B4.out.size)⟩
            · by_cases hb2 : 100 < op.n2
              · go_wp2_with fail
                go_ret
                exact ⟨rfl, B4.out.trans (B3.out.mono B4.out.size)⟩
              · go_wp2_with fail
                go_roundw
                case rel =>
                  refine ⟨i + 1, by go_num, by omega, B3.out, fun q op' hq hop' => ?_⟩
                  rcases Nat.lt_succ_iff_lt_or_eq.1 hq with hq2 | rfl
                  · exact SM.out q op' hq2 hop'
                  · rw [HOP.out] at hop'
                    injection hop' with hop'
                    exact hop' ▸ ⟨by omega, by omega⟩
                case measure => simp [intOf]; omega
        · obtain ⟨i0, rfl⟩ : ∃ q, q = i := ⟨_, rfl⟩
          have HIN : Hid (i0 = n + n') := Lib.hid (by omega)
          have BW0 := Lib.hid (B4.out.trans (BR.out.mono B4.out.size))
          have PW0 := Lib.hid (PH4.out.below BR.out)
          clear B4 BR PH4
          go_wp2_with fail
          clear hlt hi
          go_loopw [9] (fun x wz => ∃ (i : Nat) (S : Nat → Prop) (m : RM), x = .int .i64 (i : Int) ∧ i ≤ n ∧ Pair Z wz g S h hl hw 32 cl cw m ∧ (∀ k, Both S h hl hw k → w.heap.size ≤ k) ∧ Below w.heap.size w wz ∧ m.wrote ≤ i ∧ m.powers ≤ i) (fun x _ => n - (intOf x).toNat)
          case atStart => exact ⟨0, S1, newM 32, rfl, by omega, PW0.out, AH4.out, BW0.out, Nat.le_refl _, Nat.le_refl _⟩
          case round =>
            obtain ⟨i, S, m, rfl, hi, hp, ha, hbel, hm1, hm2⟩ := hrel
            obtain ⟨wz, rfl⟩ : ∃ W, W = wr := ⟨_, rfl⟩
            clear PW0 AH4 BW0 S1
            have P := Lib.hid hp
            have AA := Lib.hid ha
            have BR := Lib.hid hbel
            have C1 := Lib.hid hm1
            have C2 := Lib.hid hm2
            clear hp ha hbel hm1 hm2
            by_cases hlt : i < n
            · obtain ⟨op, hop⟩ : ∃ op, ops[i]? = some op := ⟨_, List.getElem?_eq_getElem (by have := H1.out.1; omega)⟩
              obtain ⟨g0, o0, rfl, hg0, hcells⟩ := H1.out.2 (by omega)
              have OA0 : OpAt w w.heap.size g0 o0 i op := ⟨(hcells i op hop).1, (hcells i op hop).2, hg0⟩
              have sm := SM.out i op (by have := HIN.out; omega) (by rw [List.getElem?_append_left (by have := H1.out.1; omega)]; exact hop)
              have OA := Lib.hid (OA0.below BR.out)
              have LD := Lib.hid (load_op (W := wz) (g := g0) (o := o0 + i * 5) (op := op) (fun k v hk => by rw [show o0 + i * 5 + k = o0 + (5 * i + k) by omega]; exact OA.out.cells k v hk))
              have CD := Lib.hid (do_any Z wz g h hl hw 32 cl cw S m op w.heap.size P.out OA.out.ok BR.out.size AA.out sm.s1 sm.s2 (by have := C1.out; omega) (by have := C2.out; omega))
              clear hop hcells OA0 sm
              go_wp2_with (first
                | (refine wpList_loadG rfl 32 (.tmp 70) rfl ⟨g0, o0 + i * 5, none⟩ rfl _ LD.out ?_)
                | (go_at_call 13; refine CD.out.mono ?_; rintro e w5 ⟨rfl, ⟨S5, m5, p5, s5, f1, f2⟩, o5⟩
                   have P5 := Lib.hid p5
                   have A5 : Hid (∀ k, Both S5 h hl hw k → w.heap.size ≤ k) := Lib.hid (by
                     rintro k (hk | hk)
                     · rcases s5 k hk with h1 | h1
                       · exact AA.out k (.inl h1)
                       · exact Nat.le_trans BR.out.size h1
                     · exact AA.out k (.inr hk))
                   have B5 := Lib.hid (BR.out.trans (o5.to_below AA.out BR.out.size))
                   have F1 := Lib.hid f1
                   have F2 := Lib.hid f2
                   clear p5 s5 o5 f1 f2))
              go_roundw
              case rel => exact ⟨i + 1, S5, m5, by go_num, by omega, P5.out, A5.out, B5.out, by have := F1.out; have := C1.out; omega, by have := F2.out; have := C2.out; omega⟩
              case measure => simp [intOf]; omega
            · obtain rfl : i = n := by omega
              clear hlt hi
              have CK := Lib.hid (fun W (d : Z.D W g S 32 m) => Z.copy_any d P.out.ok)
              have CQ := Lib.hid (fun W (r : RefD W h hl hw 32 cl cw m) => rcopy_any W h hl hw 32 cl cw m r P.out.ok)
              have hlt0 : ∀ k, Both S h hl hw k → k < wz.heap.size := by
                rintro k (hk | hk)
                · exact Z.lt P.out.d k hk
                · exact P.out.duo.rlt k hk
              have LT := Lib.hid hlt0
              clear hlt0
              go_upto_region 20 with (first
                | (go_at_call 27; refine (CK.out _ P.out.d).mono ?_; rintro e w6 ⟨g2, S2, rfl, d2, s2, b6⟩
                   have DD := Lib.hid (And.intro d2 s2)
                   have P6 := Lib.hid (P.out.below b6)
                   have B6 := Lib.hid b6
                   clear d2 s2 b6)
                | (go_at_call 28; refine (CQ.out _ P6.out.r).mono ?_; rintro e w7 ⟨h2, hl2, hw2, cl2, cw2, rfl, r7, q1, q2, q3, b7⟩))
              have hs6 := B6.out.size
              have P7 : Pair Z w7 g2 S2 h2 hl2 hw2 32 cl2 cw2 m := ⟨Z.only DD.out.1 (Only.of_below (S := fun _ => False) b7 (Nat.le_refl _)) (fun _ _ h => h), r7, by
                rintro k hk (rfl | rfl | rfl)
                · have := Z.lt DD.out.1 _ hk; omega
                · have := Z.lt DD.out.1 _ hk; omega
                · have := Z.lt DD.out.1 _ hk; omega, P.out.ok⟩
              have A7 : ∀ k, Both S2 h2 hl2 hw2 k → wz.heap.size ≤ k := by
                rintro k (hk | hk)
                · exact DD.out.2 k hk
                · rcases hk with rfl | rfl | rfl <;> omega
              have O7 := Lib.hid (P6.out.below b7)
              have B7 := Lib.hid (B6.out.trans (b7.mono B6.out.size))
              have PH7 := Lib.hid P7
              have AH7 := Lib.hid A7
              clear P7 A7
              clear r7 q1 q2 q3 b7 hs6 DD P6 B6 CK CQ
              go_wp2_with fail
              go_loopw [12] (fun x wy => ∃ (i : Nat) (S' : Nat → Prop) (m' : RM), x = .int .i64 (i : Int) ∧ i ≤ n' ∧ Pair Z wy g2 S' h2 hl2 hw2 32 cl2 cw2 m' ∧ Pair Z wy g S h hl hw 32 cl cw m ∧ (∀ k, Both S' h2 hl2 hw2 k → wz.heap.size ≤ k) ∧ Below wz.heap.size wz wy ∧ m'.wrote ≤ 40 + i ∧ m'.powers ≤ 40 + i) (fun x _ => n' - (intOf x).toNat)
              case atStart => exact ⟨0, S2, m, rfl, by omega, PH7.out, O7.out, AH7.out, B7.out, by have := C1.out; omega, by have := C2.out; omega⟩
              case round =>
                obtain ⟨q, S', m', rfl, hq, hp, hp0, ha, hbel, hm1, hm2⟩ := hrel
                obtain ⟨wy, rfl⟩ : ∃ W, W = wr := ⟨_, rfl⟩
                clear PH7 AH7 B7 O7 S2
                have PC := Lib.hid hp
                have PD := Lib.hid hp0
                have AC := Lib.hid ha
                have BC := Lib.hid hbel
                have BCw := Lib.hid (BR.out.trans (hbel.mono BR.out.size))
                have E1 := Lib.hid hm1
                have E2 := Lib.hid hm2
                clear hp hp0 ha hbel hm1 hm2
                by_cases hlt : q < n'
                · obtain ⟨op, hop⟩ : ∃ op, more[q]? = some op := ⟨_, List.getElem?_eq_getElem (by have := H2.out.1; omega)⟩
                  obtain ⟨g0, o0, rfl, hg0, hcells⟩ := H2.out.2 (by omega)
                  have OA0 : OpAt w w.heap.size g0 o0 q op := ⟨(hcells q op hop).1, (hcells q op hop).2, hg0⟩
                  have sm := SM.out (i + q) op (by have := HIN.out; omega) (by rw [List.getElem?_append_right (by have := H1.out.1; omega), show i + q - ops.length = q by have := H1.out.1; omega]; exact hop)
                  have OA := Lib.hid (OA0.below BCw.out)
                  have LD := Lib.hid (load_op (W := wy) (g := g0) (o := o0 + q * 5) (op := op) (fun k v hk => by rw [show o0 + q * 5 + k = o0 + (5 * q + k) by omega]; exact OA.out.cells k v hk))
                  have CD := Lib.hid (do_any Z wy g2 h2 hl2 hw2 32 cl2 cw2 S' m' op w.heap.size PC.out OA.out.ok BCw.out.size (fun k hk => Nat.le_trans BR.out.size (AC.out k hk)) sm.s1 sm.s2 (by have := E1.out; omega) (by have := E2.out; omega))
                  clear hop hcells OA0 sm
                  go_wp2_with (first
                    | (refine wpList_loadG rfl 32 (.tmp 89) rfl ⟨g0, o0 + q * 5, none⟩ rfl _ LD.out ?_)
                    | (go_at_call 13; refine CD.out.mono ?_; rintro e w5 ⟨rfl, ⟨S5, m5, p5, s5, f1, f2⟩, o5⟩
                       have P5 := Lib.hid p5
                       have O5 := Lib.hid (PD.out.only o5 (fun k hk hb => by have h1 := LT.out k hk; have h2 := AC.out k hb; omega))
                       have A5 : Hid (∀ k, Both S5 h2 hl2 hw2 k → wz.heap.size ≤ k) := Lib.hid (by
                         rintro k (hk | hk)
                         · rcases s5 k hk with h1 | h1
                           · exact AC.out k (.inl h1)
                           · exact Nat.le_trans BC.out.size h1
                         · exact AC.out k (.inr hk))
                       have B5 := Lib.hid (BC.out.trans (o5.to_below AC.out BC.out.size))
                       have F1 := Lib.hid f1
                       have F2 := Lib.hid f2
                       clear p5 s5 o5 f1 f2))
                  go_roundw
                  case rel => exact ⟨q + 1, S5, m5, by go_num, by omega, P5.out, O5.out, A5.out, B5.out, by have := F1.out; have := E1.out; omega, by have := F2.out; have := E2.out; omega⟩
                  case measure => simp [intOf]; omega
                · obtain rfl : q = n' := by omega
                  clear hlt hq
                  go_wp2_with (first
                    | (go_at_call 14; refine (same_any Z _ g h hl hw 32 cl cw S m (PD1.out)).mono ?_; rintro e w9 ⟨rfl, b9⟩
                       have PC2 := Lib.hid (PC1.out.below b9)
                       have PD2 := Lib.hid (PD1.out.below b9)
                       have B9 := Lib.hid (B8.out.trans (b9.mono B8.out.size))
                       clear b9)
                    | (go_at_call 14; refine (same_any Z _ g2 h2 hl2 hw2 32 cl2 cw2 S' m' (PC.out)).mono ?_; rintro e w8 ⟨rfl, b8⟩
                       have PC1 := Lib.hid (PC.out.below b8)
                       have PD1 := Lib.hid (PD.out.below b8)
                       have B8 := Lib.hid (BCw.out.trans (b8.mono BCw.out.size))
                       clear b8)
                    | (go_at_call 15; refine (readall_any Z _ g h hl hw 32 cl cw S m (PD3.out)).mono ?_; rintro e w11 ⟨rfl, b11⟩
                       have B11 := Lib.hid (B10.out.trans (b11.mono B10.out.size))
                       clear b11)
                    | (go_at_call 15; refine (readall_any Z _ g2 h2 hl2 hw2 32 cl2 cw2 S' m' (PC2.out)).mono ?_; rintro e w10 ⟨rfl, b10⟩
                       have PD3 := Lib.hid (PD2.out.below b10)
                       have B10 := Lib.hid (B9.out.trans (b10.mono B9.out.size))
                       clear b10))
                  go_ret
                  exact ⟨rfl, B11.out⟩
end Go.Proofs.Ytpnmcdpekfibjaa
