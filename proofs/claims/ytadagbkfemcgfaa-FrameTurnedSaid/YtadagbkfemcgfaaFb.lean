/-
  Own work. The law FrameBack walked, over frames by their contracts.
-/
import Derived.Test.YtadagbkfemcgfaaFl
import Derived.Test.YtadagbkfemcgfaaPl
namespace Go.Proofs.Ytadagbkfemcgfaa
open Go.RowKit
set_option linter.unusedVariables false
set_option linter.unusedSimpArgs false

set_option maxRecDepth 100000 in
set_option maxHeartbeats 4000000 in
theorem fback_law (K : FK) (q : List UInt8) (A : Option Addr) (n c : Nat) (l : List UInt8) (B : Option Addr) (m d : Nat) (r : List UInt8) (v : Int) (w : World) (hq : q.length = 32) (h : HasB w w.heap.size A n l) (hc : n ≤ c) (hcm : c ≤ maxLen) (hr : HasB w w.heap.size B m r) (hd : m ≤ d) (hdm : d ≤ maxLen) (hv : -9223372036854775808 ≤ v ∧ v ≤ 9223372036854775807) : Calls Try.prog 5 #[.agg (cellsB q).toArray, .slice A n c, .slice B m d, .int .i64 v] w (RetTrue w) := by
  have HCM := Lib.hid hcm
  unfold maxLen at hcm hdm
  have hw1 : Below w.heap.size w (w.alloc (.cells (cellsB q).toArray 23)) := (Below.refl w.heap.size w).alloc (Nat.le_refl _) _
  by_cases hbig : 4200 < n ∨ 4096 < m
  · have HW1 := Lib.hid hw1
    clear h hr hq hv hw1
    by_cases hb1 : 4200 < n
    · go_enter Try.func5, Try.ntmps5
      go_wp2_with (go_at_call 8; refine (begun10_any K _).mono ?_; rintro e w1 ⟨rfl, b1⟩
                   have B1 := Lib.hid (HW1.out.trans (b1.mono HW1.out.size))
                   clear b1)
      go_ret
      exact ⟨rfl, B1.out⟩
    · have hb2 : 4096 < m := by omega
      clear hbig
      go_enter Try.func5, Try.ntmps5
      go_wp2_with (go_at_call 8; refine (begun10_any K _).mono ?_; rintro e w1 ⟨rfl, b1⟩
                   have B1 := Lib.hid (HW1.out.trans (b1.mono HW1.out.size))
                   clear b1)
      go_ret
      exact ⟨rfl, B1.out⟩
  · have hn4 : n ≤ 4200 := by omega
    have hm4 : m ≤ 4096 := by omega
    have hl := h.len
    have hrl := hr.len
    obtain ⟨M, hM⟩ : ∃ M, 46 + n = M := ⟨_, rfl⟩
    obtain ⟨F, hF⟩ : ∃ F, frL q l = F := ⟨_, rfl⟩
    have hFl : F.length = M := by rw [← hF, frL_len q l hq]; omega
    have c1 : ∀ W, HasB W W.heap.size A n l → Calls Try.prog 10 #[.agg (cellsB q).toArray, .slice A n c] W (RetBE W F 0) := fun W h1 => by
      have := K.put_any W A n c q l h1 hc HCM.out (by omega) hq
      rwa [fputE_ok (by omega), fputL_ok (by omega), hF] at this
    have c2 : ∀ W A' k c', HasB W W.heap.size A' k (F ++ r) → k ≤ c' → c' ≤ maxLen → Calls Try.prog 16 #[.slice A' k c'] W (RetTk W ⟨q, l, M, 0⟩) := fun W A' k c' h1 h2 h3 => by
      have := K.take_any W A' k c' (F ++ r) h1 h2 h3 (by have := h1.len; rw [List.length_append] at this; omega)
      rwa [← hF, ftake_frame q l r hq (by omega), ← hl, hM] at this
    have c3 : ∀ W A' k c', k < M → HasB W W.heap.size A' k (F.take k) → k ≤ c' → c' ≤ maxLen → Calls Try.prog 16 #[.slice A' k c'] W fun e w' => ∃ (J : List UInt8) (A2 : Option Addr) (n2 c2 k2 : Nat), J.length = 32 ∧ e = .returned (.tuple #[.agg (cellsB J).toArray, .slice A2 n2 c2, .int .i64 (k2 : Int), .int .i64 3]) ∧ Below W.heap.size W w' := fun W A' k c' h0 h1 h2 h3 => by
      refine (K.take_any W A' k c' (F.take k) h1 h2 h3 (by omega)).mono ?_
      rintro e w' ⟨A2, n2, c2, rfl, _, hb⟩
      have he := ftake_cut q l k hq (by omega) (by omega)
      rw [hF] at he
      exact ⟨_, A2, n2, c2, _, (ftake_len (F.take k)).1, by rw [he], hb⟩
    have c4 : ∀ W, Calls Try.prog 13 #[.int .i64 (n : Int)] W fun e w' => e = .returned (.int .i64 (M : Int)) ∧ Below W.heap.size W w' := fun W => by
      have := K.size_any W n (by omega)
      rwa [show fsz (n : Int) = (M : Int) by unfold fsz; rw [if_neg (by omega)]; omega] at this
    have C1 := Lib.hid c1
    have C2 := Lib.hid c2
    have C3 := Lib.hid c3
    have C4 := Lib.hid c4
    have HL := Lib.hid hl
    have HRL := Lib.hid hrl
    have HS := Lib.hid h
    have HR := Lib.hid hr
    have HQ := Lib.hid hq
    have FL := Lib.hid hFl
    have hM1 : 46 ≤ M := by omega
    have hM2 : M ≤ 4246 := by omega
    have IVq := Lib.hid (id_iv q hq)
    have IZq := Lib.hid (id_hz q hq)
    have HW1 := Lib.hid hw1
    clear hbig h hr hl hrl c1 c2 c3 c4 hq hw1 hM hF hFl
    go_enter Try.func5, Try.ntmps5
    go_upto_region 7 with (first
      | (go_at_call 8; refine (begun10_any K _).mono ?_; rintro e w1 ⟨rfl, b1⟩
         have B1 := Lib.hid (HW1.out.trans (b1.mono HW1.out.size))
         have Q1 := Lib.hid ((Bw.new w q 23).below b1 (by simp))
         clear b1)
      | (refine wpList_load_rowG rfl 23 (.tmp 4) rfl w.heap.size rfl (.agg (cellsB q).toArray) (Q1.out.load HQ.out) ?_)
      | (go_at_call 10; refine (C1.out _ (HS.out.on B1.out)).mono ?_; rintro e w2 ⟨A2, n2, c2, rfl, o2, b2⟩
         have n2M : n2 = M := by have := o2.len; have := FL.out; omega
         subst n2M
         obtain ⟨g2, rfl, hg2, _, _⟩ := o2.head (by omega)
         have cap2 := o2.caps
         have O2 := Lib.hid o2
         have Q2 := Lib.hid (Q1.out.below b2 Q1.out.lt)
         have B2 := Lib.hid (B1.out.trans (b2.mono B1.out.size))
         clear b2 o2))
    have cap3 := cap2.2
    unfold maxLen at cap3
    go_upto_region 8 with (first
      | (at_builtin; refine wp_app rfl (.tmp 41) (.tmp 42) rfl Try.underlying24 infoU8 w2.heap.size _ F r rfl O3.out _ _ _ _ rfl (HR.out.on B3.out) (by have := FL.out; have := HRL.out; omega) S3.out ?_; intro A4 n4 c4 w4 hown4 hg4 hb4
         have b4 := E3.out.trans hb4
         have O4 := Lib.hid hown4
         have R4 := Lib.hid (O2.out.below b4)
         have Q4 := Lib.hid (Q2.out.below b4 Q2.out.lt)
         have B4 := Lib.hid (B2.out.trans (b4.mono B2.out.size))
         clear hown4 hg4 hb4 b4)
      | (at_builtin; refine wp_app rfl (.tmp 39) (.tmp 40) rfl Try.underlying24 infoU8 w2.heap.size _ [] F rfl (OwnB.empty w2) _ _ _ _ rfl (O2.out.has.alloc (Nat.le_refl _) _) (by have := FL.out; simp; omega) (by simp) ?_; intro A3 n3 c3 w3 hown3 hg3 hb3
         rw [List.nil_append] at hown3
         have b3 : Below w2.heap.size w2 w3 := ((Below.refl _ w2).alloc (Nat.le_refl _) _).trans hb3
         have O3 := Lib.hid hown3
         have E3 := Lib.hid b3
         have S3 := Lib.hid b3.size
         have B3 := Lib.hid (B2.out.trans (b3.mono B2.out.size))
         clear hown3 hg3 hb3 b3)
      | (go_at_call 16; refine (C2.out _ _ _ _ O4.out.has O4.out.caps.1 O4.out.caps.2).mono ?_; rintro e w5 ⟨A5, n5, c5, rfl, o5, b5⟩
         have O5 := Lib.hid o5
         have R5 := Lib.hid (R4.out.below b5)
         have Q5 := Lib.hid (Q4.out.below b5 Q4.out.lt)
         have B5 := Lib.hid (B4.out.trans (b5.mono B4.out.size))
         clear o5 b5)
      | (refine wpList_store_row rfl 23 (.tmp 12) (.tmp 45) rfl w5.heap.size (cellsB q).toArray rfl rfl 23 _ (Bw.new w5 (zer 32) 23) IVq.out IZq.out (cellsB_ones _) ?_
         have hrow := box_below w5 q
         have hbx := box_id w5 q
         generalize hW6 : World.setRow _ _ _ = W6
         rw [show (w5.alloc (.cells (cellsB (zer 32)).toArray 23)).setRow w5.heap.size (cellsB q).toArray = W6 from hW6] at hrow hbx
         have X6 := Lib.hid hbx
         have O6 := Lib.hid (O5.out.below hrow)
         have R6 := Lib.hid (R5.out.below hrow)
         have Q6 := Lib.hid (Q5.out.below hrow Q5.out.lt)
         have B6 := Lib.hid (B5.out.trans (hrow.mono B5.out.size))
         clear hW6 hbx hrow))
    go_upto_region 9 with (first
      | (go_at_call 18; refine (place_any v n2 _ hv (by omega) (by omega)).mono ?_; rintro e w7 ⟨⟨j, hj, rfl⟩, rfl⟩
         have hjc : j ≤ c2 := by omega)
      | (go_at_call 16; refine (C3.out _ _ _ _ hj (by have := R6.out.has.window (k := 0) (s := j) (by omega) (A' := some ⟨g2, 0, none⟩) (m := j) rfl (fun _ => rfl); rwa [List.drop_zero] at this) hjc cap2.2).mono ?_; rintro e w8 ⟨J, A8, n8, c8, k8, hJ, rfl, b8⟩
         have IVJ := Lib.hid (id_iv J hJ)
         have IZJ := Lib.hid (id_hz J hJ)
         have O8 := Lib.hid (O6.out.below b8)
         have X8 := Lib.hid (X6.out.below b8 X6.out.lt)
         have Q8 := Lib.hid (Q6.out.below b8 Q6.out.lt)
         have B8 := Lib.hid (B6.out.trans (b8.mono B6.out.size))
         clear b8 hJ)
      | (refine wpList_store_row rfl 23 (.tmp 16) (.tmp 56) rfl w8.heap.size (cellsB J).toArray rfl rfl 23 _ (Bw.new w8 (zer 32) 23) IVJ.out IZJ.out (cellsB_ones _) ?_
         have hrow := box_below w8 J
         have hbx := box_id w8 J
         generalize hW9 : World.setRow _ _ _ = W9
         rw [show (w8.alloc (.cells (cellsB (zer 32)).toArray 23)).setRow w8.heap.size (cellsB J).toArray = W9 from hW9] at hrow hbx
         have X9 := Lib.hid (X8.out.below hrow X8.out.lt)
         have Q9 := Lib.hid (Q8.out.below hrow Q8.out.lt)
         have B9 := Lib.hid (B8.out.trans (hrow.mono B8.out.size))
         have k1 := run_conv (P := Try.prog) Try.underlying24 Try.underlying5 Try.underlying9 _ A5 n5 c5 l (O8.out.below hrow).has
         have k2 := run_conv (P := Try.prog) Try.underlying24 Try.underlying5 Try.underlying9 _ A n c l (HS.out.on B9.out)
         clear hW9 hbx hrow))
    go_wp2_with (first
      | (refine wpList_load_rowG rfl 23 (.tmp 12) rfl w5.heap.size rfl (.agg (cellsB q).toArray) (X9.out.load HQ.out) ?_)
      | (refine wpList_load_rowG rfl 23 (.tmp 4) rfl w.heap.size rfl (.agg (cellsB q).toArray) (Q9.out.load HQ.out) ?_)
      | (refine wpList_eqlG rfl 23 23 (.tmp 67) (.tmp 68) rfl (.agg (cellsB q).toArray) (.agg (cellsB q).toArray) true rfl rfl (guard_id _ _ _ _ _) (eql_id_same _ HQ.out _) ?_)
      | (go_at_call 13; refine (C4.out _).mono ?_; rintro e w10 ⟨rfl, b10⟩
         have B10 := Lib.hid (B9.out.trans (b10.mono B9.out.size))
         clear b10))
    go_ret
    exact ⟨rfl, B10.out⟩
end Go.Proofs.Ytadagbkfemcgfaa
