/-
  Own work. The law FrameTurned walked, over frames by their contracts.
-/
import Derived.Test.YtadagbkfemcgfaaFb
namespace Go.Proofs.Ytadagbkfemcgfaa
open Go.RowKit
set_option linter.unusedVariables false
set_option linter.unusedSimpArgs false

theorem xor_bits8 (a b : UInt8) : bits .xor .u8 (a.toNat : Int) (b.toNat : Int) = ((a ^^^ b).toNat : Int) := by
  rw [u8_xor_nat _ _ a.toNat_lt b.toNat_lt, UInt8.toNat_xor]
theorem xor_none (a b : UInt8) (h : b.toNat = 0) : a ^^^ b = a := by
  have : b = 0 := UInt8.toNat_inj.1 h
  subst this
  simp
theorem set_same (l : List UInt8) (j : Nat) (b : UInt8) (h : l[j]? = some b) : l.set j b = l := by
  apply List.ext_getElem?
  intro i
  rw [List.getElem?_set]
  split
  · rename_i e
    subst e
    split
    · exact h.symm
    · rename_i hn
      rw [List.getElem?_eq_none (by omega)]
  · rfl

set_option maxRecDepth 100000 in
set_option maxHeartbeats 4000000 in
theorem fturned_law (K : FK) (q : List UInt8) (A : Option Addr) (n c : Nat) (l : List UInt8) (v : Int) (x : UInt8) (w : World) (hq : q.length = 32) (h : HasB w w.heap.size A n l) (hc : n ≤ c) (hcm : c ≤ maxLen) (hv : -9223372036854775808 ≤ v ∧ v ≤ 9223372036854775807) : Calls Try.prog 6 #[.agg (cellsB q).toArray, .slice A n c, .int .i64 v, .int .u8 (x.toNat : Int)] w (RetTrue w) := by
  have HCM := Lib.hid hcm
  unfold maxLen at hcm
  have hw1 : Below w.heap.size w (w.alloc (.cells (cellsB q).toArray 23)) := (Below.refl w.heap.size w).alloc (Nat.le_refl _) _
  by_cases hbig : 4200 < n
  · have HW1 := Lib.hid hw1
    clear h hq hv hw1
    go_enter Try.func6, Try.ntmps6
    go_wp2_with (go_at_call 8; refine (begun10_any K _).mono ?_; rintro e w1 ⟨rfl, b1⟩
                 have B1 := Lib.hid (HW1.out.trans (b1.mono HW1.out.size))
                 clear b1)
    go_ret
    exact ⟨rfl, B1.out⟩
  · have hl := h.len
    obtain ⟨M, hM⟩ : ∃ M, 46 + n = M := ⟨_, rfl⟩
    obtain ⟨F, hF⟩ : ∃ F, frL q l = F := ⟨_, rfl⟩
    have hFl : F.length = M := by rw [← hF, frL_len q l hq]; omega
    have c1 : ∀ W, HasB W W.heap.size A n l → Calls Try.prog 10 #[.agg (cellsB q).toArray, .slice A n c] W (RetBE W F 0) := fun W h1 => by
      have := K.put_any W A n c q l h1 hc HCM.out (by omega) hq
      rwa [fputE_ok (by omega), fputL_ok (by omega), hF] at this
    have hFok : (ftake F).e = 0 := by
      have := ftake_frame q l [] hq (by omega)
      rw [List.append_nil, hF] at this
      rw [this]
    have C1 := Lib.hid c1
    have HS := Lib.hid h
    have HQ := Lib.hid hq
    have FL := Lib.hid hFl
    have FO := Lib.hid hFok
    have hM1 : 46 ≤ M := by omega
    have hM2 : M ≤ 4246 := by omega
    have HW1 := Lib.hid hw1
    obtain ⟨Z, hZ⟩ : ∃ Z, zer 32 = Z := ⟨_, rfl⟩
    have hZl : Z.length = 32 := by rw [← hZ]; rfl
    have BZ : Hid (Try.prog.built 23 [] = some (cellsB Z).toArray) := Lib.hid (by rw [← hZ]; exact built_id)
    have ZL := Lib.hid hZl
    have IVZ := Lib.hid (id_iv Z hZl)
    have IZZ := Lib.hid (id_hz Z hZl)
    have HZ := Lib.hid hZ
    clear h hl c1 hq hw1 hM hF hFl hFok hZ hZl
    go_enter Try.func6, Try.ntmps6
    go_upto_region 9 with (first
      | (go_at_call 8; refine (begun10_any K _).mono ?_; rintro e w1 ⟨rfl, b1⟩
         have B1 := Lib.hid (HW1.out.trans (b1.mono HW1.out.size))
         have Q1 := Lib.hid ((Bw.new w q 23).below b1 (by simp))
         clear b1)
      | (refine wpList_load_rowG rfl 23 (.tmp 4) rfl w.heap.size rfl (.agg (cellsB q).toArray) (Q1.out.load HQ.out) ?_)
      | (go_at_call 10; refine (C1.out _ (HS.out.on B1.out)).mono ?_; rintro e w2 ⟨A2, n2, c2, rfl, o2, b2⟩
         have n2M : n2 = M := by have := o2.len; have := FL.out; omega
         subst n2M
         obtain ⟨g2, rfl, hg2, hlt2, hcell2⟩ := o2.head (by omega)
         have cap2 := o2.caps
         have HC2 := Lib.hid hcell2
         have FZ2 := Lib.hid o2.frozen
         have O2 := Lib.hid o2
         have BG2 := Lib.hid hg2
         have B2 := Lib.hid (B1.out.trans (b2.mono B1.out.size))
         have S1 := Lib.hid B1.out.size
         clear b2 o2 hcell2)
      | (go_at_call 18; refine (place_any v n2 _ hv (by omega) (by omega)).mono ?_; rintro e w3 ⟨⟨j, hj, rfl⟩, rfl⟩))
    obtain ⟨b, hb⟩ : ∃ b, F[j]? = some b := ⟨_, List.getElem?_eq_getElem (by rw [FL.out]; exact hj)⟩
    have cb := HC2.out j b hb
    have fb := FZ2.out j
    have e8 := xor_bits8 b x
    obtain ⟨z, hz⟩ : ∃ z, b ^^^ x = z := ⟨_, rfl⟩
    rw [hz] at e8
    have O3 : Hid (OwnB (w2.setCell ⟨g2, j, none⟩ (.int .u8 (z.toNat : Int))) w1.heap.size (.slice (some ⟨g2, 0, none⟩) n2 c2) (F.set j z)) := Lib.hid (O2.out.set_ rfl)
    have B3 : Hid (Below w.heap.size w (w2.setCell ⟨g2, j, none⟩ (.int .u8 (z.toNat : Int)))) := Lib.hid (B2.out.setCell (p := ⟨g2, j, none⟩) (show w.heap.size ≤ g2 by have := S1.out; have := BG2.out; omega) _)
    obtain ⟨H, hH⟩ : ∃ H, F.set j z = H := ⟨_, rfl⟩
    have HF : Hid (x.toNat = 0 → H = F) := Lib.hid (fun hx => by rw [← hH, ← hz, xor_none b x hx]; exact set_same F j b hb)
    have hHl : H.length = n2 := by rw [← hH, List.length_set]; exact FL.out
    have HHL := Lib.hid hHl
    rw [hH] at O3
    have c2' := fun W A' c' (q1 : HasB W W.heap.size A' n2 H) (q2 : n2 ≤ c') (q3 : c' ≤ maxLen) => K.take_any W A' n2 c' H q1 q2 q3 (by omega)
    have hlen := ftake_len H
    unfold RetTk at c2'
    generalize hW3 : w2.setCell ⟨g2, j, none⟩ (.int .u8 (z.toNat : Int)) = w3 at O3 B3
    have E8 := Lib.hid e8
    have W3 := Lib.hid hW3
    rcases ftake_cases H with ⟨he, hno⟩ | ⟨he, hk, hb2, hn2, hle, htk⟩
    · obtain ⟨E, hE⟩ : ∃ E, (ftake H).e = E := ⟨_, rfl⟩
      have hx0 : ¬ x.toNat = 0 := fun hx => he (by rw [HF.out hx]; exact FO.out)
      have hx1 : ¬ (x.toNat : Int) = 0 := by omega
      have hx2 : ((x.toNat : Int) == 0) = false := by rw [beq_eq_false_iff_ne]; exact hx1
      have hx3 : (x.toNat == 0) = false := by rw [beq_eq_false_iff_ne]; exact hx0
      have hx4 : ((x.toNat : Int) != 0) = true := by rw [bne_iff_ne]; exact hx1
      rw [hE] at he hno
      rw [hno] at c2'
      unfold TK.no at c2'
      dsimp only at c2'
      rw [HZ.out] at c2'
      have C2 := Lib.hid c2'
      clear c2' hno hE hlen hH hHl hz hb hx0 HF
      go_upto_region 10 with fail
      try rw [show w2.setCell ⟨g2, j, none⟩ (.int .u8 (z.toNat : Int)) = w3 from W3.out]
      clear cb fb e8 hW3
      go_upto_region 11 with (first
        | (go_at_call 16; refine (C2.out _ _ _ O3.out.has cap2.1 cap2.2).mono ?_; rintro e w5 ⟨A5, n5, c5, rfl, o5, b5⟩
           have n50 : n5 = 0 := o5.len
           subst n50
           have B5 := Lib.hid (B3.out.trans (b5.mono B3.out.size))
           clear o5 b5)
        | (refine wpList_store_row rfl 23 (.tmp 11) (.tmp 43) rfl w5.heap.size (cellsB Z).toArray rfl rfl 23 _ (Bw.new w5 (zer 32) 23) IVZ.out IZZ.out (cellsB_ones _) ?_
           have hrow := box_below w5 Z
           have hbx := box_id w5 Z
           generalize hW6 : World.setRow _ _ _ = W6
           rw [show (w5.alloc (.cells (cellsB (zer 32)).toArray 23)).setRow w5.heap.size (cellsB Z).toArray = W6 from hW6] at hrow hbx
           have X6 := Lib.hid hbx
           have B6 := Lib.hid (B5.out.trans (hrow.mono B5.out.size))
           clear hW6 hbx hrow))
      go_wp2_with (first
        | (refine wpList_load_rowG rfl 23 (.tmp 11) rfl w5.heap.size rfl (.agg (cellsB Z).toArray) (X6.out.load ZL.out) ?_)
        | (refine wpList_buildG rfl 23 rfl (cellsB Z).toArray BZ.out ?_)
        | (refine wpList_eqlG rfl 23 23 (.tmp 52) (.tmp 53) rfl (.agg (cellsB Z).toArray) (.agg (cellsB Z).toArray) true rfl rfl (guard_id _ _ _ _ _) (eql_id_same _ ZL.out _) ?_))
      go_ret
      exact ⟨rfl, B6.out⟩
    · obtain ⟨J, hJ⟩ : ∃ J, (ftake H).key = J := ⟨_, rfl⟩
      obtain ⟨V, hV⟩ : ∃ V, (ftake H).b = V := ⟨_, rfl⟩
      obtain ⟨N, hN⟩ : ∃ N, (ftake H).n = N := ⟨_, rfl⟩
      obtain ⟨G, hG⟩ : ∃ G, frL J V = G := ⟨_, rfl⟩
      rw [hJ] at hk
      rw [hV] at hb2
      rw [hN, hV] at hn2
      rw [hN] at hle
      rw [hN, hJ, hV, hG] at htk
      have hGl : G.length = N := by rw [← hG, frL_len J V hk]; omega
      rw [he, hJ, hV, hN] at c2'
      have C3 : Hid (∀ W A' k c', HasB W W.heap.size A' k V → k ≤ c' → c' ≤ maxLen → Calls Try.prog 10 #[.agg (cellsB J).toArray, .slice A' k c'] W (RetBE W G 0)) := Lib.hid (fun W A' k c' h1 h2 h3 => by
        have := K.put_any W A' k c' J V h1 h2 h3 (by have := h1.len; omega) hk
        rwa [fputE_ok (by omega), fputL_ok (by omega), hG] at this)
      have C2 := Lib.hid c2'
      have hNc : N ≤ c2 := by have := cap2.1; omega
      have HN2 : Hid (N ≤ n2) := Lib.hid (by omega)
      have JL := Lib.hid hk
      have GL := Lib.hid hGl
      have TK := Lib.hid htk
      have IVJ := Lib.hid (id_iv J hk)
      have IZJ := Lib.hid (id_hz J hk)
      have DGG : Hid (decide (G = G) = true) := Lib.hid (by simp)
      clear c2' he hlen hH hHl hz hb HF hJ hV hN hG hk hb2 hn2 hle htk hGl
      go_upto_region 10 with fail
      try rw [show w2.setCell ⟨g2, j, none⟩ (.int .u8 (z.toNat : Int)) = w3 from W3.out]
      clear cb fb e8 hW3
      go_upto_region 11 with (first
        | (go_at_call 16; refine (C2.out _ _ _ O3.out.has cap2.1 cap2.2).mono ?_; rintro e w5 ⟨A5, n5, c5, rfl, o5, b5⟩
           have O5 := Lib.hid o5
           have R5 := Lib.hid (O3.out.below b5)
           have B5 := Lib.hid (B3.out.trans (b5.mono B3.out.size))
           clear o5 b5)
        | (refine wpList_store_row rfl 23 (.tmp 11) (.tmp 43) rfl w5.heap.size (cellsB J).toArray rfl rfl 23 _ (Bw.new w5 (zer 32) 23) IVJ.out IZJ.out (cellsB_ones _) ?_
           have hrow := box_below w5 J
           have hbx := box_id w5 J
           generalize hW6 : World.setRow _ _ _ = W6
           rw [show (w5.alloc (.cells (cellsB (zer 32)).toArray 23)).setRow w5.heap.size (cellsB J).toArray = W6 from hW6] at hrow hbx
           have X6 := Lib.hid hbx
           have O6 := Lib.hid (O5.out.below hrow)
           have R6 := Lib.hid (R5.out.below hrow)
           have B6 := Lib.hid (B5.out.trans (hrow.mono B5.out.size))
           clear hW6 hbx hrow))
      go_upto_region 14 with (first
        | (refine wpList_load_rowG rfl 23 (.tmp 11) rfl w5.heap.size rfl (.agg (cellsB J).toArray) (X6.out.load JL.out) ?_)
        | (go_at_call 10; refine (C3.out _ _ _ _ O6.out.has O6.out.caps.1 O6.out.caps.2).mono ?_; rintro e w7 ⟨A7, n7, c7, rfl, o7, b7⟩
           have n7N : n7 = N := by have := o7.len; have := GL.out; omega
           subst n7N
           have B7 := Lib.hid (B6.out.trans (b7.mono B6.out.size))
           have K5 : Hid (∀ W, Below w7.heap.size w7 W → (convert 24 9 (.slice (some ⟨g2, 0, none⟩) n7 c2)).run Try.prog W = .ok (.string ⟨G.toArray⟩) W) := Lib.hid (fun W hW => run_conv (P := Try.prog) Try.underlying24 Try.underlying5 Try.underlying9 _ (some ⟨g2, 0, none⟩) n7 c2 G (by
             have h1 := (R6.out.below b7).has.on hW
             have := h1.window (k := 0) (s := n7) (by have := HN2.out; omega) (A' := some ⟨g2, 0, none⟩) (m := n7) rfl (fun _ => rfl)
             rwa [List.drop_zero, TK.out] at this))
           have K6 : Hid (∀ W, Below w7.heap.size w7 W → (convert 24 9 (.slice A7 n7 c7)).run Try.prog W = .ok (.string ⟨G.toArray⟩) W) := Lib.hid (fun W hW => run_conv (P := Try.prog) Try.underlying24 Try.underlying5 Try.underlying9 _ A7 n7 c7 G (o7.has.on hW))
           clear o7 b7))
      refine wp_region_held_drew (S := fun W => Below w7.heap.size w7 W) (by kernel_rfl) (Below.refl _ w7).drew (fun hHeld => ?_)
      refine wpAnyH_take (i := 0) (v := ?v0t) (by simp only [List.getElem?_toArray, List.getElem?_cons_succ, List.getElem?_cons_zero]; rfl) (by kernel_rfl) (by kernel_rfl) (by kernel_rfl) (by exact fun _ _ _ h => h) (Or.inl ⟨by rfl, ?h0t⟩) (by assumption) ?_
      case h0t => (intro W hSw; (try dsimp only at hSw); go_simp; try with_reducible rfl)
      try simp only [Act.put, List.setIfInBounds_toArray, List.set_cons_zero, List.set_cons_succ]
      refine wpAnyH_take (i := 1) (v := ?v1t) (by simp only [List.getElem?_toArray, List.getElem?_cons_succ, List.getElem?_cons_zero]; rfl) (by kernel_rfl) (by kernel_rfl) (by kernel_rfl) (by exact fun _ _ _ h => h) (Or.inl ⟨by rfl, ?h1t⟩) (by assumption) ?_
      case h1t => (intro W hSw; (try dsimp only at hSw); go_simp; try with_reducible rfl)
      try simp only [Act.put, List.setIfInBounds_toArray, List.set_cons_zero, List.set_cons_succ]
      refine wpAnyH_take (i := 2) (v := ?v2t) (by simp only [List.getElem?_toArray, List.getElem?_cons_succ, List.getElem?_cons_zero]; rfl) (by kernel_rfl) (by kernel_rfl) (by kernel_rfl) (by exact fun _ _ _ h => h) (Or.inl ⟨by rfl, ?h2t⟩) (by assumption) ?_
      case h2t => (intro W hSw; (try dsimp only at hSw); go_simp; try with_reducible rfl)
      try simp only [Act.put, List.setIfInBounds_toArray, List.set_cons_zero, List.set_cons_succ]
      refine wpAnyH_take (i := 3) (v := ?v3t) (by simp only [List.getElem?_toArray, List.getElem?_cons_succ, List.getElem?_cons_zero]; rfl) (by kernel_rfl) (by kernel_rfl) (by kernel_rfl) (by exact fun _ _ _ h => h) (Or.inl ⟨by rfl, ?h3t⟩) (by assumption) ?_
      case h3t => (intro W hSw; (try dsimp only at hSw); go_simp; try with_reducible rfl)
      try simp only [Act.put, List.setIfInBounds_toArray, List.set_cons_zero, List.set_cons_succ]
      refine wpAnyH_take (i := 4) (v := ?v4t) (by simp only [List.getElem?_toArray, List.getElem?_cons_succ, List.getElem?_cons_zero]; rfl) (by kernel_rfl) (by kernel_rfl) (by kernel_rfl) (by exact fun _ _ _ h => h) (Or.inl ⟨by rfl, ?h4t⟩) (by assumption) ?_
      case h4t => (intro W hSw; (try dsimp only at hSw); go_simp; try with_reducible rfl)
      try simp only [Act.put, List.setIfInBounds_toArray, List.set_cons_zero, List.set_cons_succ]
      refine wpAnyH_take (i := 5) (v := ?v5t) (by simp only [List.getElem?_toArray, List.getElem?_cons_succ, List.getElem?_cons_zero]; rfl) (by kernel_rfl) (by kernel_rfl) (by kernel_rfl) (by exact fun _ _ _ h => h) (Or.inl ⟨by rfl, ?h5t⟩) (by assumption) ?_
      case h5t => (intro W hSw; (try dsimp only at hSw); go_simp; try with_reducible rfl)
      try simp only [Act.put, List.setIfInBounds_toArray, List.set_cons_zero, List.set_cons_succ]
      refine wpAnyH_take (i := 6) (v := ?v6t) (by simp only [List.getElem?_toArray, List.getElem?_cons_succ, List.getElem?_cons_zero]; rfl) (by kernel_rfl) (by kernel_rfl) (by kernel_rfl) (by exact fun _ _ _ h => h) (Or.inl ⟨by rfl, ?h6t⟩) (by assumption) ?_
      case h6t => (intro W hSw; (try dsimp only at hSw); go_simp; try with_reducible rfl)
      try simp only [Act.put, List.setIfInBounds_toArray, List.set_cons_zero, List.set_cons_succ]
      refine wpAnyH_take (i := 7) (v := ?v7t) (by simp only [List.getElem?_toArray, List.getElem?_cons_succ, List.getElem?_cons_zero]; rfl) (by kernel_rfl) (by kernel_rfl) (by kernel_rfl) (by exact fun _ _ _ h => h) (Or.inl ⟨by rfl, ?h7t⟩) (by assumption) ?_
      case h7t => (intro W hSw; (try dsimp only at hSw); go_simp; try with_reducible rfl)
      try simp only [Act.put, List.setIfInBounds_toArray, List.set_cons_zero, List.set_cons_succ]
      refine wpAnyH_take (i := 8) (v := ?v8t) (by simp only [List.getElem?_toArray, List.getElem?_cons_succ, List.getElem?_cons_zero]; rfl) (by kernel_rfl) (by kernel_rfl) (by kernel_rfl) (by exact fun _ _ _ h => h) (Or.inl ⟨by rfl, ?h8t⟩) (by assumption) ?_
      case h8t => (intro W hSw; (try dsimp only at hSw); go_simp; try with_reducible rfl)
      try simp only [Act.put, List.setIfInBounds_toArray, List.set_cons_zero, List.set_cons_succ]
      refine wpAnyH_take (i := 9) (v := ?v9t) (by simp only [List.getElem?_toArray, List.getElem?_cons_succ, List.getElem?_cons_zero]; rfl) (by kernel_rfl) (by kernel_rfl) (by kernel_rfl) (by exact fun _ _ _ h => h) (Or.inl ⟨by rfl, ?h9t⟩) (by assumption) ?_
      case h9t => (intro W hSw; (try dsimp only at hSw); go_simp; try with_reducible rfl)
      try simp only [Act.put, List.setIfInBounds_toArray, List.set_cons_zero, List.set_cons_succ]
      refine wpAnyH_take (i := 10) (v := ?v10t) (by simp only [List.getElem?_toArray, List.getElem?_cons_succ, List.getElem?_cons_zero]; rfl) (by kernel_rfl) (by kernel_rfl) (by kernel_rfl) (by exact fun _ _ _ h => h) (Or.inl ⟨by rfl, ?h10t⟩) (by assumption) ?_
      case h10t => (intro W hSw; (try dsimp only at hSw); go_simp; try with_reducible rfl)
      try simp only [Act.put, List.setIfInBounds_toArray, List.set_cons_zero, List.set_cons_succ]
      refine wpAnyH_take (i := 11) (v := .slice (some ⟨g2, 0, none⟩) n7 c2) (by simp only [List.getElem?_toArray, List.getElem?_cons_succ, List.getElem?_cons_zero]; rfl) (by kernel_rfl) (by kernel_rfl) (by kernel_rfl) (by exact fun _ _ _ h => h) (Or.inl ⟨by rfl, ?h11t⟩) (by assumption) ?_
      case h11t => (intro W hSw; (try dsimp only at hSw); go_simp; try (first | (rw [if_pos (show n7 ≤ c2 from hNc)]; done) | (intro hbad; omega)))
      try simp only [Act.put, List.setIfInBounds_toArray, List.set_cons_zero, List.set_cons_succ]
      refine wpAnyH_take (i := 12) (by simp only [List.getElem?_toArray, List.getElem?_cons_succ, List.getElem?_cons_zero]; rfl) (by kernel_rfl) (by kernel_rfl) (by kernel_rfl) (by exact fun _ _ _ h => h) (yieldsIf_conv (by rfl) 24 9 (.tmp 82) rfl (.slice (some ⟨g2, 0, none⟩) n7 c2) (.string ⟨G.toArray⟩) rfl (fun W hW => K5.out W hW)) (by assumption) ?_
      try simp only [Act.put, List.setIfInBounds_toArray, List.set_cons_zero, List.set_cons_succ]
      refine wpAnyH_take (i := 13) (v := ?v13t) (by simp only [List.getElem?_toArray, List.getElem?_cons_succ, List.getElem?_cons_zero]; rfl) (by kernel_rfl) (by kernel_rfl) (by kernel_rfl) (by exact fun _ _ _ h => h) (Or.inl ⟨by rfl, ?h13t⟩) (by assumption) ?_
      case h13t => (intro W hSw; (try dsimp only at hSw); go_simp; try with_reducible rfl)
      try simp only [Act.put, List.setIfInBounds_toArray, List.set_cons_zero, List.set_cons_succ]
      refine wpAnyH_take (i := 14) (by simp only [List.getElem?_toArray, List.getElem?_cons_succ, List.getElem?_cons_zero]; rfl) (by kernel_rfl) (by kernel_rfl) (by kernel_rfl) (by exact fun _ _ _ h => h) (yieldsIf_conv (by rfl) 24 9 (.tmp 84) rfl (.slice A7 n7 c7) (.string ⟨G.toArray⟩) rfl (fun W hW => K6.out W hW)) (by assumption) ?_
      try simp only [Act.put, List.setIfInBounds_toArray, List.set_cons_zero, List.set_cons_succ]
      refine wpAnyH_take (i := 15) (by simp only [List.getElem?_toArray, List.getElem?_cons_succ, List.getElem?_cons_zero]; rfl) (by kernel_rfl) (by kernel_rfl) (by kernel_rfl) (by exact fun _ _ _ h => h) (yieldsIf_bin (by rfl) .eql 9 9 (.tmp 83) (.tmp 85) rfl (.string ⟨G.toArray⟩) (.string ⟨G.toArray⟩) (.bool true) rfl rfl (guard_str _ _ _ _) (fun W => by rw [eql_str, decide_eq_true rfl])) (by assumption) ?_
      try simp only [Act.put, List.setIfInBounds_toArray, List.set_cons_zero, List.set_cons_succ]
      refine wpAnyH_take (i := 16) (v := ?v16t) (by simp only [List.getElem?_toArray, List.getElem?_cons_succ, List.getElem?_cons_zero]; rfl) (by kernel_rfl) (by kernel_rfl) (by kernel_rfl) (by exact fun _ _ _ h => h) (Or.inl ⟨by rfl, ?h16t⟩) (by assumption) ?_
      case h16t => (intro W hSw; (try dsimp only at hSw); go_simp; try with_reducible rfl)
      try simp only [Act.put, List.setIfInBounds_toArray, List.set_cons_zero, List.set_cons_succ]
      refine wpAnyH_take (i := 17) (v := ?v17t) (by simp only [List.getElem?_toArray, List.getElem?_cons_succ, List.getElem?_cons_zero]; rfl) (by kernel_rfl) (by kernel_rfl) (by kernel_rfl) (by exact fun _ _ _ h => h) (Or.inl ⟨by rfl, ?h17t⟩) (by assumption) ?_
      case h17t => (intro W hSw; (try dsimp only at hSw); go_simp; try with_reducible rfl)
      try simp only [Act.put, List.setIfInBounds_toArray, List.set_cons_zero, List.set_cons_succ]
      refine wpAnyH_done (by kernel_rfl) ?_ _
      go_wp2_with fail
      go_ret
      exact ⟨rfl, B7.out.drew⟩
end Go.Proofs.Ytadagbkfemcgfaa
