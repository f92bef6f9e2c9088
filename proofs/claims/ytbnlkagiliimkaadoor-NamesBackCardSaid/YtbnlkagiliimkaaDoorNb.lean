/-
  The law NamesBack walked, over the contracts of names' functions.
-/
import Derived.Test.YtbnlkagiliimkaaDoorNl
namespace Go.Proofs.YtbnlkagiliimkaaDoor
open Go.RowKit
set_option linter.unusedVariables false
set_option linter.unusedSimpArgs false

theorem id_back (q : List UInt8) (h : q.length = 32) : idE (hexL q) = 0 ∧ idL (hexL q) = q := by
  have h1 := unhE_hex q
  have h2 := (hex_back q).1
  have h3 : idE (hexL q) = 0 := by unfold idE; rw [if_pos h1, h2, if_pos h]
  exact ⟨h3, by unfold idL; rw [if_pos h3, h2]⟩

set_option maxRecDepth 100000 in
set_option maxHeartbeats 2000000 in
theorem back_law (A : Option Addr) (n c : Nat) (l q : List UInt8) (v : Int) (w : World) (tabw : TabW w) (h : HasB w w.heap.size A n l) (hc : n ≤ c) (hcm : c ≤ maxLen) (hq : q.length = 32) (hv : -9223372036854775808 ≤ v ∧ v ≤ 9223372036854775807) :
    Calls Tryd.prog 6 #[.slice A n c, .agg (cellsB q).toArray, .int .i64 v] w (RetTrue w) := by
  unfold maxLen at hcm
  have HL := Lib.hid h.len
  have HS := Lib.hid (h.on ((Below.refl w.heap.size w).alloc (Nat.le_refl _) (.cells (cellsB q).toArray 29)))
  have HQ := Lib.hid hq
  by_cases hbig : 4096 < n
  · clear h hv hq
    go_enter Tryd.func6, Tryd.ntmps6
    go_wp2_with (first
      | (go_at_call 8; refine (begun_any _ (tabw.alloc _)).mono ?_; rintro e w1 ⟨rfl, b1⟩
         have B1 := Lib.hid (((Below.refl w.heap.size w).alloc (Nat.le_refl _) _).trans (b1.mono (by simp)))
         clear b1))
    go_ret
    exact ⟨rfl, B1.out⟩
  · have hll : l.length ≤ 4096 := by have := h.len; omega
    obtain ⟨X, hX⟩ : ∃ X : ByteArray, (⟨(hexL l).toArray⟩ : ByteArray) = X := ⟨_, rfl⟩
    obtain ⟨Y, hY⟩ : ∃ Y : ByteArray, (⟨(hexL q).toArray⟩ : ByteArray) = Y := ⟨_, rfl⟩
    obtain ⟨Z, hZ⟩ : ∃ Z : ByteArray, (⟨(prtL v).toArray⟩ : ByteArray) = Z := ⟨_, rfl⟩
    have hl1 := hexL_len l
    have hl2 := hexL_len q
    have hl3 : (prtL v).length ≤ 64 := by
      have := decL_len 19 v.natAbs (by omega)
      unfold prtL
      rw [List.length_append]
      split <;> simp <;> omega
    have c1 : ∀ W, HasB W W.heap.size A n l → Calls Tryd.prog 19 #[.slice A n c] W (fun e w' => e = .returned (.string X) ∧ Below W.heap.size W w') := fun W h1 => by have := hex_any A n c l W h1 hc (by omega); unfold RetStr at this; rwa [hX] at this
    have c2 : ∀ W, Calls Tryd.prog 11 #[.string X] W (RetBE W l 0) := fun W => by have := unhex_any (hexL l) W (by omega); rwa [hX, unhR_hex, unhE_hex] at this
    have c3 : ∀ g W, HasB W W.heap.size (some ⟨g, 0, none⟩) 32 q → Calls Tryd.prog 19 #[.slice (some ⟨g, 0, none⟩) 32 32] W (fun e w' => e = .returned (.string Y) ∧ Below W.heap.size W w') := fun g W h1 => by have := hex_any (some ⟨g, 0, none⟩) 32 32 q W h1 (Nat.le_refl _) (by omega); unfold RetStr at this; rwa [hY] at this
    have c4 : ∀ W, Calls Tryd.prog 13 #[.string Y] W (RetIDE W q 0) := fun W => by have := id_any (hexL q) W (by omega); rwa [hY, (id_back q hq).1, (id_back q hq).2] at this
    have c5 : ∀ W, Below w.heap.size w W → Calls Tryd.prog 21 #[.int .i64 v] W (fun e w' => e = .returned (.string Z) ∧ Below W.heap.size W w') := fun W hW => by have := print_any v W hv (tabw W hW); unfold RetStr at this; rwa [hZ] at this
    have c6 := fun W => number_any (prtL v) W (by omega)
    rw [hZ] at c6
    have C1 := Lib.hid c1
    have C2 := Lib.hid c2
    have C3 := Lib.hid c3
    have C4 := Lib.hid c4
    have C5 := Lib.hid c5
    have IV := Lib.hid (id_iv q hq)
    have IZ := Lib.hid (id_hz q hq)
    have np := num_prt v
    have nn := num_prt_neg v
    have nz : numE (prtL v) = 4 → numV (prtL v) = 0 := fun h => by unfold numV; rw [h, if_neg (by decide)]
    obtain ⟨x, hx⟩ : ∃ x, numV (prtL v) = x := ⟨_, rfl⟩
    obtain ⟨p, hp⟩ : ∃ p, numE (prtL v) = p := ⟨_, rfl⟩
    rw [hx, hp] at c6 np nz
    rw [hp] at nn
    clear h hX hY hZ c1 c2 c3 c4 c5 hl1 hl2 hl3 hq hx hp hll
    by_cases hneg : v < 0
    · have hp4 := nn hneg
      subst hp4
      have hx0 := nz rfl
      subst hx0
      have C6 := Lib.hid c6
      clear np nn nz c6
      go_enter Tryd.func6, Tryd.ntmps6
      go_wp2_with (first
        | (go_at_call 8; refine (begun_any _ (tabw.alloc _)).mono ?_; rintro e w1 ⟨rfl, b1⟩
           have B1 := Lib.hid (((Below.refl w.heap.size w).alloc (Nat.le_refl _) _).trans (b1.mono (by simp)))
           have H1 := Lib.hid (HS.out.on b1)
           have Q1 := Lib.hid ((Bw.new w q 29).below b1 (by simp))
           clear b1)
        | (go_at_call 19; refine (C3.out w.heap.size w3 (Q3.out.has HQ.out.symm)).mono ?_; rintro e w4 ⟨rfl, b4⟩
           have B4 := Lib.hid (B3.out.trans (b4.mono B3.out.size))
           have H4 := Lib.hid (H3.out.on b4)
           have Q4 := Lib.hid (Q3.out.below b4 Q3.out.lt)
           have O4 := Lib.hid (O3.out.below b4)
           clear b4)
        | (go_at_call 19; refine (C1.out _ H1.out).mono ?_; rintro e w2 ⟨rfl, b2⟩
           have B2 := Lib.hid (B1.out.trans (b2.mono B1.out.size))
           have H2 := Lib.hid (H1.out.on b2)
           have Q2 := Lib.hid (Q1.out.below b2 Q1.out.lt)
           clear b2)
        | (go_at_call 11; refine (C2.out _).mono ?_; rintro e w3 ⟨A3, n3, c3, rfl, hown3, b3⟩
           have B3 := Lib.hid (B2.out.trans (b3.mono B2.out.size))
           have H3 := Lib.hid (H2.out.on b3)
           have Q3 := Lib.hid (Q2.out.below b3 Q2.out.lt)
           have O3 := Lib.hid hown3
           clear hown3 b3)
        | (go_at_call 13; refine (C4.out _).mono ?_; rintro e w5 ⟨rfl, b5⟩
           have B5 := Lib.hid (B4.out.trans (b5.mono B4.out.size))
           have H5 := Lib.hid (H4.out.on b5)
           have Q5 := Lib.hid (Q4.out.below b5 Q4.out.lt)
           have O5 := Lib.hid (O4.out.below b5)
           clear b5)
        | (refine wpList_store_row rfl 29 (.tmp 9) (.tmp 28) rfl w5.heap.size (cellsB q).toArray rfl rfl 29 _ (Bw.new w5 (zer 32) 29) IV.out IZ.out (cellsB_ones _) ?_
           have hrow := below_setRow ((Below.refl w5.heap.size w5).alloc (Nat.le_refl _) (.cells (cellsB (zer 32)).toArray 29)) (Nat.le_refl _) (cellsB q).toArray
           have X6 := Lib.hid (Bw.row (m := q) (Bw.new w5 (zer 32) 29))
           have H6 := Lib.hid (H5.out.on hrow)
           have Q6 := Lib.hid (Q5.out.below hrow Q5.out.lt)
           have O6 := Lib.hid (O5.out.below hrow)
           have B6 := Lib.hid (B5.out.trans (hrow.mono B5.out.size))
           clear hrow)
        | (go_at_call 21; refine (C5.out _ B6.out).mono ?_; rintro e w7 ⟨rfl, b7⟩
           have X7 := Lib.hid (X6.out.below b7 X6.out.lt)
           have H7 := Lib.hid (H6.out.on b7)
           have Q7 := Lib.hid (Q6.out.below b7 Q6.out.lt)
           have O7 := Lib.hid (O6.out.below b7)
           have B7 := Lib.hid (B6.out.trans (b7.mono B6.out.size))
           clear b7)
        | (go_at_call 15; refine (C6.out _).mono ?_; rintro e w8 ⟨rfl, b8⟩
           have X8 := Lib.hid (X7.out.below b8 X7.out.lt)
           have Q8 := Lib.hid (Q7.out.below b8 Q7.out.lt)
           have k1 := run_conv (P := Tryd.prog) Tryd.underlying24 Tryd.underlying5 Tryd.underlying9 _ A3 n3 c3 l (O7.out.below b8).has
           have k2 := run_conv (P := Tryd.prog) Tryd.underlying24 Tryd.underlying5 Tryd.underlying9 _ A n c l (H7.out.on b8)
           have B8 := Lib.hid (B7.out.trans (b8.mono B7.out.size))
           clear b8)
        | (refine wpList_load_rowG rfl 29 (.tmp 9) rfl w5.heap.size rfl (.agg (cellsB q).toArray) (X8.out.load HQ.out) ?_)
        | (refine wpList_load_rowG rfl 29 (.tmp 4) rfl w.heap.size rfl (.agg (cellsB q).toArray) (Q8.out.load HQ.out) ?_)
        | (refine wpList_eqlG rfl 29 29 (.tmp 50) (.tmp 51) rfl (.agg (cellsB q).toArray) (.agg (cellsB q).toArray) true rfl rfl (guard_id _ _ _ _ _) (eql_id_same _ HQ.out _) ?_))
      go_ret
      exact ⟨rfl, B8.out⟩
    · obtain ⟨hp0, hxv⟩ := np (by omega) hv.2
      subst hp0
      subst hxv
      have C6 := Lib.hid c6
      clear nn nz c6
      go_enter Tryd.func6, Tryd.ntmps6
      go_wp2_with (first
        | (go_at_call 8; refine (begun_any _ (tabw.alloc _)).mono ?_; rintro e w1 ⟨rfl, b1⟩
           have B1 := Lib.hid (((Below.refl w.heap.size w).alloc (Nat.le_refl _) _).trans (b1.mono (by simp)))
           have H1 := Lib.hid (HS.out.on b1)
           have Q1 := Lib.hid ((Bw.new w q 29).below b1 (by simp))
           clear b1)
        | (go_at_call 19; refine (C3.out w.heap.size w3 (Q3.out.has HQ.out.symm)).mono ?_; rintro e w4 ⟨rfl, b4⟩
           have B4 := Lib.hid (B3.out.trans (b4.mono B3.out.size))
           have H4 := Lib.hid (H3.out.on b4)
           have Q4 := Lib.hid (Q3.out.below b4 Q3.out.lt)
           have O4 := Lib.hid (O3.out.below b4)
           clear b4)
        | (go_at_call 19; refine (C1.out _ H1.out).mono ?_; rintro e w2 ⟨rfl, b2⟩
           have B2 := Lib.hid (B1.out.trans (b2.mono B1.out.size))
           have H2 := Lib.hid (H1.out.on b2)
           have Q2 := Lib.hid (Q1.out.below b2 Q1.out.lt)
           clear b2)
        | (go_at_call 11; refine (C2.out _).mono ?_; rintro e w3 ⟨A3, n3, c3, rfl, hown3, b3⟩
           have B3 := Lib.hid (B2.out.trans (b3.mono B2.out.size))
           have H3 := Lib.hid (H2.out.on b3)
           have Q3 := Lib.hid (Q2.out.below b3 Q2.out.lt)
           have O3 := Lib.hid hown3
           clear hown3 b3)
        | (go_at_call 13; refine (C4.out _).mono ?_; rintro e w5 ⟨rfl, b5⟩
           have B5 := Lib.hid (B4.out.trans (b5.mono B4.out.size))
           have H5 := Lib.hid (H4.out.on b5)
           have Q5 := Lib.hid (Q4.out.below b5 Q4.out.lt)
           have O5 := Lib.hid (O4.out.below b5)
           clear b5)
        | (refine wpList_store_row rfl 29 (.tmp 9) (.tmp 28) rfl w5.heap.size (cellsB q).toArray rfl rfl 29 _ (Bw.new w5 (zer 32) 29) IV.out IZ.out (cellsB_ones _) ?_
           have hrow := below_setRow ((Below.refl w5.heap.size w5).alloc (Nat.le_refl _) (.cells (cellsB (zer 32)).toArray 29)) (Nat.le_refl _) (cellsB q).toArray
           have X6 := Lib.hid (Bw.row (m := q) (Bw.new w5 (zer 32) 29))
           have H6 := Lib.hid (H5.out.on hrow)
           have Q6 := Lib.hid (Q5.out.below hrow Q5.out.lt)
           have O6 := Lib.hid (O5.out.below hrow)
           have B6 := Lib.hid (B5.out.trans (hrow.mono B5.out.size))
           clear hrow)
        | (go_at_call 21; refine (C5.out _ B6.out).mono ?_; rintro e w7 ⟨rfl, b7⟩
           have X7 := Lib.hid (X6.out.below b7 X6.out.lt)
           have H7 := Lib.hid (H6.out.on b7)
           have Q7 := Lib.hid (Q6.out.below b7 Q6.out.lt)
           have O7 := Lib.hid (O6.out.below b7)
           have B7 := Lib.hid (B6.out.trans (b7.mono B6.out.size))
           clear b7)
        | (go_at_call 15; refine (C6.out _).mono ?_; rintro e w8 ⟨rfl, b8⟩
           have X8 := Lib.hid (X7.out.below b8 X7.out.lt)
           have Q8 := Lib.hid (Q7.out.below b8 Q7.out.lt)
           have k1 := run_conv (P := Tryd.prog) Tryd.underlying24 Tryd.underlying5 Tryd.underlying9 _ A3 n3 c3 l (O7.out.below b8).has
           have k2 := run_conv (P := Tryd.prog) Tryd.underlying24 Tryd.underlying5 Tryd.underlying9 _ A n c l (H7.out.on b8)
           have B8 := Lib.hid (B7.out.trans (b8.mono B7.out.size))
           clear b8)
        | (refine wpList_load_rowG rfl 29 (.tmp 9) rfl w5.heap.size rfl (.agg (cellsB q).toArray) (X8.out.load HQ.out) ?_)
        | (refine wpList_load_rowG rfl 29 (.tmp 4) rfl w.heap.size rfl (.agg (cellsB q).toArray) (Q8.out.load HQ.out) ?_)
        | (refine wpList_eqlG rfl 29 29 (.tmp 50) (.tmp 51) rfl (.agg (cellsB q).toArray) (.agg (cellsB q).toArray) true rfl rfl (guard_id _ _ _ _ _) (eql_id_same _ HQ.out _) ?_))
      go_ret
      exact ⟨rfl, B8.out⟩
end Go.Proofs.YtbnlkagiliimkaaDoor
