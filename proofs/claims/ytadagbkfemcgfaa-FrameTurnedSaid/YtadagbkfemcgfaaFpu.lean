/-
  Own work. The program's frames: Put.
-/
import Derived.Test.YtadagbkfemcgfaaFpr
namespace Go.Proofs.Ytadagbkfemcgfaa
open Go.RowKit
set_option linter.unusedVariables false
set_option linter.unusedSimpArgs false

theorem has_four {W : World} {A1 A2 A3 A4 : Option Addr} {n1 n2 n3 n4 c1 c2 c3 c4 : Nat} {l1 l2 l3 l4 : List UInt8} (h1 : HasB W W.heap.size A1 n1 l1) (h2 : HasB W W.heap.size A2 n2 l2) (h3 : HasB W W.heap.size A3 n3 l3) (h4 : HasB W W.heap.size A4 n4 l4) (k1 : n1 ≤ c1) (k2 : n2 ≤ c2) (k3 : n3 ≤ c3) (k4 : n4 ≤ c4) :
    HasBB (W.alloc (.cells #[.slice A1 n1 c1, .slice A2 n2 c2, .slice A3 n3 c3, .slice A4 n4 c4] 24)) (W.alloc (.cells #[.slice A1 n1 c1, .slice A2 n2 c2, .slice A3 n3 c3, .slice A4 n4 c4] 24)).heap.size (some ⟨W.heap.size, 0, none⟩) 4 [l1, l2, l3, l4] := by
  refine ⟨rfl, fun _ => ⟨W.heap.size, 0, rfl, by simp, fun i l hi => ?_⟩⟩
  have hrow := heap_alloc_new W (.cells #[.slice A1 n1 c1, .slice A2 n2 c2, .slice A3 n3 c3, .slice A4 n4 c4] 24)
  match i with
  | 0 =>
    simp only [List.getElem?_cons_zero, Option.some.injEq] at hi
    subst hi
    exact ⟨A1, n1, c1, by rw [cell_of_row _ _ _ _ _ _ hrow]; rfl, k1, (h1.alloc (Nat.le_refl _) _).more (by simp)⟩
  | 1 =>
    simp only [List.getElem?_cons_succ, List.getElem?_cons_zero, Option.some.injEq] at hi
    subst hi
    exact ⟨A2, n2, c2, by rw [cell_of_row _ _ _ _ _ _ hrow]; rfl, k2, (h2.alloc (Nat.le_refl _) _).more (by simp)⟩
  | 2 =>
    simp only [List.getElem?_cons_succ, List.getElem?_cons_zero, Option.some.injEq] at hi
    subst hi
    exact ⟨A3, n3, c3, by rw [cell_of_row _ _ _ _ _ _ hrow]; rfl, k3, (h3.alloc (Nat.le_refl _) _).more (by simp)⟩
  | 3 =>
    simp only [List.getElem?_cons_succ, List.getElem?_cons_zero, Option.some.injEq] at hi
    subst hi
    exact ⟨A4, n4, c4, by rw [cell_of_row _ _ _ _ _ _ hrow]; rfl, k4, (h4.alloc (Nat.le_refl _) _).more (by simp)⟩
  | i + 4 => simp at hi
theorem ck_box (w : World) (q : List UInt8) : Bw ((w.alloc (.cells (cellsB (zer 8)).toArray 67)).setRow w.heap.size (cellsB q).toArray) w.heap.size 67 q := Bw.row (m := q) (Bw.new w (zer 8) 67)
theorem ck_below (w : World) (q : List UInt8) : Below w.heap.size w ((w.alloc (.cells (cellsB (zer 8)).toArray 67)).setRow w.heap.size (cellsB q).toArray) :=
  below_setRow ((Below.refl w.heap.size w).alloc (Nat.le_refl _) _) (Nat.le_refl _) _
set_option maxRecDepth 100000 in
set_option maxHeartbeats 2000000 in
theorem fput_any (w : World) (A : Option Addr) (n c : Nat) (key l : List UInt8) (h : HasB w w.heap.size A n l) (hc : n ≤ c) (hn : n ≤ 1073741824) (hk : key.length = 32) :
    Calls Try.prog 10 #[.agg (cellsB key).toArray, .slice A n c] w (RetBE w (fputL key l) (fputE l)) := by
  have hl := h.len
  by_cases hbig : 4200 < n
  · have e1 : fputL key l = [] := if_neg (by omega)
    have e2 : fputE l = 2 := if_neg (by omega)
    rw [e1, e2]
    clear e1 e2 h hk hl
    go_enter Try.func10, Try.ntmps10
    go_wp2_with fail
    go_ret2
    exact ⟨none, 0, 0, rfl, OwnB.nil _ _, (Below.refl _ w).alloc (Nat.le_refl _) _⟩
  · have e1 : fputL key l = frL key l := if_pos (by omega)
    have e2 : fputE l = 0 := if_pos (by omega)
    rw [e1, e2]
    obtain ⟨P, hP⟩ : ∃ P, ([199, 70] : List UInt8) ++ be 4 n = P := ⟨_, rfl⟩
    have hpl : P.length = 6 := by rw [← hP, List.length_append, be_length]; rfl
    have hsl := frS_len key l
    obtain ⟨S, hS⟩ : ∃ S, frS key l = S := ⟨_, rfl⟩
    rw [hS] at hsl
    have FR : Hid (frL key l = [P, S, key, l].flatten) := Lib.hid (by rw [← hP, ← hS, hl]; simp [frL])
    obtain ⟨base, hbase⟩ : ∃ base, (w.alloc (.cells (cellsB key).toArray 23)).alloc (.cells (cellsB [199, 70]).toArray 5) = base := ⟨_, rfl⟩
    have hb0 : Below w.heap.size w base := by rw [← hbase]; exact ((Below.refl _ w).alloc (Nat.le_refl _) _).alloc (by simp) _
    have hbs : base.heap.size = w.heap.size + 2 := by rw [← hbase]; simp
    have hkey : Bw base w.heap.size 23 key := by rw [← hbase]; exact (Bw.new w key _).alloc _
    have C1 : Hid (Calls Try.prog 31 #[.slice (some ⟨w.heap.size + 1, 0, none⟩) 2 2, .int .u64 (n : Int), .int .i64 4] base (RetBE base P 0)) := Lib.hid (by
      have hr := HasB.row (w.alloc (.cells (cellsB key).toArray 23)) [199, 70] 5
      rw [hbase] at hr
      have := put_ok (some ⟨w.heap.size + 1, 0, none⟩) [199, 70] 2 2 n 4 base (by simpa using hr) (by omega) (by omega) (by omega) (by omega) (by have : (256 : Nat) ^ 4 = 4294967296 := rfl; omega)
      rwa [hP] at this)
    have KEY : Hid (∀ W, Below base.heap.size base W → Bw W w.heap.size 23 key) := Lib.hid (fun W hW => hkey.below hW hkey.lt)
    have BB : Hid (∀ W, Below base.heap.size base W → HasB W W.heap.size A n l) := Lib.hid (fun W hW => h.on (hb0.trans (hW.mono hb0.size)))
    have CK : Hid (∀ W, Below base.heap.size base W → Calls Try.prog 32 #[.agg (cellsB key).toArray, .slice A n c] W fun e w' => e = .returned (.agg (cellsB S).toArray) ∧ Below W.heap.size W w') := Lib.hid (fun W hW => by rw [← hS]; exact check_any W A n c key l (BB.out W hW) hc (by omega) hk)
    have PL := Lib.hid hpl
    have KL := Lib.hid hk
    have LL : Hid (l.length ≤ 4200) := Lib.hid (by omega)
    have SL := Lib.hid hsl
    have B0 := Lib.hid hb0
    have BS := Lib.hid hbs
    have HB0 := Lib.hid hbase
    have IV := Lib.hid (ck_iv S hsl)
    have IZ := Lib.hid (ck_hz S hsl)
    clear e1 e2 h hk hl hP hS hb0 hbs hkey hpl hsl hbase
    go_enter Try.func10, Try.ntmps10
    go_upto_region 5 with (first
      | (go_at_call 31
         rw [show (w.alloc (.cells (cellsB key).toArray 23)).alloc (.cells #[.int .u8 199, .int .u8 70] 5) = base from HB0.out]
         refine C1.out.mono ?_; rintro e w1 ⟨A1, n1, c1, rfl, o1, b1⟩
         have O1 := Lib.hid o1
         have B1 := Lib.hid b1
         have LDK := Lib.hid ((KEY.out _ b1).load KL.out)
         clear o1 b1)
      | (refine wpList_load_rowG rfl 23 (.tmp 2) rfl w.heap.size rfl (.agg (cellsB key).toArray) LDK.out ?_)
      | (go_at_call 32; refine (CK.out _ B1.out).mono ?_; rintro e w2 ⟨rfl, b2⟩
         have O2 := Lib.hid (O1.out.below b2)
         have B2 := Lib.hid (B1.out.trans (b2.mono B1.out.size))
         clear b2)
      | (refine wpList_store_row rfl 67 (.tmp 8) (.tmp 22) rfl w2.heap.size (cellsB S).toArray rfl rfl 67 _ (Bw.new w2 (zer 8) 67) IV.out IZ.out (cellsB_ones _) ?_))
    generalize hw3 : World.setRow _ _ _ = w3
    have hsum : Bw w3 w2.heap.size 67 S := by rw [← hw3]; exact ck_box w2 S
    have hb3 : Below w2.heap.size w2 w3 := by rw [← hw3]; exact ck_below w2 S
    obtain ⟨w4, hw4⟩ : ∃ w4, w3.drew = w4 := ⟨_, rfl⟩
    have hb34 : Below w3.heap.size w3 w4 := by rw [← hw4]; exact (Below.refl _ w3).drew
    have hb24 : Below w2.heap.size w2 w4 := hb3.trans (hb34.mono hb3.size)
    have hB4 : Below base.heap.size base w4 := B2.out.trans (hb24.mono B2.out.size)
    have o4 : OwnB w4 base.heap.size (.slice A1 n1 c1) P := O2.out.below hb24
    have hcat := concat_any (some ⟨w4.heap.size, 0, none⟩) 4 4 [P, S, key, l] _ (has_four (c4 := c) o4.has ((hsum.below hb34 hsum.lt).has SL.out.symm) ((KEY.out _ hB4).has KL.out.symm) (BB.out _ hB4) o4.caps.1 (Nat.le_refl 8) (Nat.le_refl 32) hc) (by omega) (by have := PL.out; simp only [List.flatten_cons, List.length_append]; omega) (by have := PL.out; have := SL.out; have := KL.out; have := LL.out; simp; omega)
    have CC := Lib.hid hcat
    have H4 := Lib.hid hw4
    have B4 := Lib.hid (B0.out.trans (hB4.mono B0.out.size))
    clear hw3 hsum hb3 hw4 hb34 hb24 hB4 o4 hcat
    go_still_tail 4, (by kernel_rfl)
    change wpList _ _ _ _ _ w3.drew
    rw [H4.out]
    go_wp2_with (first
      | (go_at_call 33; refine CC.out.mono ?_; rintro e w5 ⟨A5, n5, c5, rfl, o5, b5⟩
         have O5 := Lib.hid o5
         have B5 := Lib.hid ((B4.out.alloc B4.out.size _).trans (b5.mono (Nat.le_trans B4.out.size (by simp))))
         clear o5 b5))
    go_ret2
    rw [FR.out]
    exact ⟨_, _, _, rfl, O5.out.less (Nat.le_trans B4.out.size (by simp)), B5.out⟩
end Go.Proofs.Ytadagbkfemcgfaa
