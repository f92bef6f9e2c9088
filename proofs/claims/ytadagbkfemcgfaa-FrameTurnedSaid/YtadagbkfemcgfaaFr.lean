/-
  Own work. The document's answer to frame: Size, Put.
-/
import Derived.Test.YtadagbkfemcgfaaFk
import Derived.Test.YtadagbkfemcgfaaIb
import Derived.Test.YtadagbkfemcgfaaRp
import Derived.Test.YtadagbkfemcgfaaRat
import Derived.Test.YtadagbkfemcgfaaRof
import Derived.Test.YtadagbkfemcgfaaO1
import Derived.Test.YtadagbkfemcgfaaG1
namespace Go.Proofs.Ytadagbkfemcgfaa
open Go.RowKit
set_option linter.unusedVariables false
set_option linter.unusedSimpArgs false

theorem rfsize_any (w : World) (n : Int) (hn : -9223372036854775808 ≤ n ∧ n ≤ 9223372036854775807) : Calls Try.prog 14 #[.int .i64 n] w fun e w' => e = .returned (.int .i64 (fsz n)) ∧ Below w.heap.size w w' := by
  obtain ⟨h1, h2⟩ := hn
  by_cases hlo : n < 0
  · rw [show fsz n = 0 from if_pos (.inl hlo)]
    go_enter Try.func14, Try.ntmps14
    go_wp2_with fail
    go_ret
    exact ⟨rfl, Below.refl _ _⟩
  · by_cases hhi : 4200 < n
    · rw [show fsz n = 0 from if_pos (.inr hhi)]
      go_enter Try.func14, Try.ntmps14
      go_wp2_with fail
      go_ret
      exact ⟨rfl, Below.refl _ _⟩
    · rw [show fsz n = 46 + n from if_neg (by omega)]
      go_enter Try.func14, Try.ntmps14
      go_wp2_with fail
      go_ret
      exact ⟨rfl, Below.refl _ _⟩
theorem rof_two {W : World} {A B : Option Addr} {n m c d : Nat} {a b : List UInt8} (ha : HasB W W.heap.size A n a) (hb : HasB W W.heap.size B m b) (hc : n ≤ c) (hd : m ≤ d) (hn : n ≤ 8192) (hm : m ≤ 8192) :
    Calls Try.prog 35 #[.slice (some ⟨W.heap.size, 0, none⟩) 2 2] (W.alloc (.cells #[.slice A n c, .slice B m d] 24)) (RetID (W.alloc (.cells #[.slice A n c, .slice B m d] 24)) (sumS (a ++ b))) := by
  have := rof_any _ 2 2 [a, b] _ (has_two ha hb hc hd) (by omega) (by have := ha.len; have := hb.len; simp; omega)
  simpa using this
theorem put_head (n : Nat) (h : n ≤ 4200) : putL [199, 70] n 4 = [199, 70] ++ be 4 n ∧ putE n 4 = 0 := by
  have : putE n 4 = 0 := by unfold putE; rw [if_pos (by omega), if_pos (by have : (256 : Nat) ^ (4 : Int).toNat = 4294967296 := rfl; omega)]
  exact ⟨by unfold putL; rw [if_pos this]; rfl, this⟩

set_option maxRecDepth 100000 in
set_option maxHeartbeats 2000000 in
theorem rfput_any (w : World) (A : Option Addr) (n c : Nat) (key l : List UInt8) (h : HasB w w.heap.size A n l) (hc : n ≤ c) (hn : n ≤ 1073741824) (hk : key.length = 32) :
    Calls Try.prog 11 #[.agg (cellsB key).toArray, .slice A n c] w (RetBE w (fputL key l) (fputE l)) := by
  have hl := h.len
  by_cases hbig : 4200 < n
  · have e1 : fputL key l = [] := if_neg (by omega)
    have e2 : fputE l = 2 := if_neg (by omega)
    rw [e1, e2]
    clear e1 e2 h hk hl
    go_enter Try.func11, Try.ntmps11
    go_wp2_with fail
    go_ret2
    exact ⟨none, 0, 0, rfl, OwnB.nil _ _, (Below.refl _ w).alloc (Nat.le_refl _) _⟩
  · have e1 : fputL key l = frL key l := if_pos (by omega)
    have e2 : fputE l = 0 := if_pos (by omega)
    rw [e1, e2]
    obtain ⟨P, hP⟩ : ∃ P, ([199, 70] : List UInt8) ++ be 4 n = P := ⟨_, rfl⟩
    have hpl : P.length = 6 := by rw [← hP, List.length_append, be_length]; rfl
    obtain ⟨S, hS⟩ : ∃ S, sumS (key ++ l) = S := ⟨_, rfl⟩
    have hsl : S.length = 32 := by rw [← hS]; exact sum_len _
    have FR : Hid (frL key l = P ++ S.take 8 ++ key ++ l) := Lib.hid (by rw [← hP, ← hS, hl]; simp [frL, frS])
    have hph := put_head n (by omega)
    rw [hP] at hph
    obtain ⟨base, hbase⟩ : ∃ base, (w.alloc (.cells (cellsB key).toArray 23)).alloc (.cells (cellsB [199, 70]).toArray 5) = base := ⟨_, rfl⟩
    have hb0 : Below w.heap.size w base := by rw [← hbase]; exact ((Below.refl _ w).alloc (Nat.le_refl _) _).alloc (by simp) _
    have hbs : base.heap.size = w.heap.size + 2 := by rw [← hbase]; simp
    have hkey : Bw base w.heap.size 23 key := by rw [← hbase]; exact (Bw.new w key _).alloc _
    have C1 : Hid (Calls Try.prog 34 #[.slice (some ⟨w.heap.size + 1, 0, none⟩) 2 2, .int .u64 (n : Int), .int .i64 4] base (RetBE base P 0)) := Lib.hid (by
      have hr := HasB.row (w.alloc (.cells (cellsB key).toArray 23)) [199, 70] 5
      rw [hbase] at hr
      have := rput_any (some ⟨w.heap.size + 1, 0, none⟩) [199, 70] 2 2 n 4 base (by simpa using hr) (by omega) (by omega) (by omega)
      rwa [hph.1, hph.2] at this)
    have KEY : Hid (∀ W, Below base.heap.size base W → HasB W W.heap.size (some ⟨w.heap.size, 0, none⟩) 32 key) := Lib.hid (fun W hW => (hkey.below hW hkey.lt).has hk.symm)
    have BB : Hid (∀ W, Below base.heap.size base W → HasB W W.heap.size A n l) := Lib.hid (fun W hW => h.on (hb0.trans (hW.mono hb0.size)))
    have PL := Lib.hid hpl
    have KL := Lib.hid hk
    have LL : Hid (l.length ≤ 4200) := Lib.hid (by omega)
    have SL := Lib.hid hsl
    have HS := Lib.hid hS
    have B0 := Lib.hid hb0
    have BS := Lib.hid hbs
    have HB0 := Lib.hid hbase
    have IV := Lib.hid (id_iv S hsl)
    have IZ := Lib.hid (id_hz S hsl)
    clear e1 e2 h hk hl hP hS hph hb0 hbs hkey hpl hsl hbase
    go_enter Try.func11, Try.ntmps11
    go_upto_region 5 with (first
      | (go_at_call 34
         rw [show (w.alloc (.cells (cellsB key).toArray 23)).alloc (.cells #[.int .u8 199, .int .u8 70] 5) = base from HB0.out]
         refine C1.out.mono ?_; rintro e w1 ⟨A1, n1, c1, rfl, o1, b1⟩
         have O1 := Lib.hid o1
         have B1 := Lib.hid b1
         clear o1 b1)
      | (go_at_call 35; refine (rof_two (KEY.out _ B1.out) (BB.out _ B1.out) (Nat.le_refl _) hc (by omega) (by omega)).mono ?_; rintro e w2 ⟨rfl, b2⟩
         rw [HS.out]
         have b2' := B1.out.trans ((((Below.refl _ w1).alloc (Nat.le_refl _) _).trans (b2.mono (by simp))).mono B1.out.size)
         have O2 := Lib.hid (O1.out.below (((Below.refl _ w1).alloc (Nat.le_refl _) _).trans (b2.mono (by simp))))
         have B2 := Lib.hid b2'
         clear b2 b2')
      | (refine wpList_store_row rfl 23 (.tmp 8) (.tmp 23) rfl w2.heap.size (cellsB S).toArray rfl rfl 23 _ (Bw.new w2 (zer 32) 23) IV.out IZ.out (cellsB_ones _) ?_))
    generalize hw3 : World.setRow _ _ _ = w3
    have hsum : Bw w3 w2.heap.size 23 S := by rw [← hw3]; exact box_id w2 S
    have hb3 : Below w2.heap.size w2 w3 := by rw [← hw3]; exact box_below w2 S
    have O3 : Hid (OwnB w3.drew base.heap.size (.slice A1 n1 c1) P) := Lib.hid (show OwnB w3 base.heap.size (.slice A1 n1 c1) P from O2.out.below hb3)
    have hS3 : Below base.heap.size base w3.drew := (B2.out.trans (hb3.mono B2.out.size)).drew
    have SM8 : Hid (HasB w3.drew w3.drew.heap.size (some ⟨w2.heap.size, 0, none⟩) 8 (S.take 8)) := Lib.hid (by
      have h1 : HasB w3 w3.heap.size (some ⟨w2.heap.size, 0, none⟩) 32 S := hsum.has SL.out.symm
      have h2 := h1.window (k := 0) (s := 8) (by omega) (A' := some ⟨w2.heap.size, 0, none⟩) (m := 8) rfl (fun _ => rfl)
      exact h2)
    have HS3 := Lib.hid hS3
    clear hw3 hsum hb3 hS3
    have hS3 := HS3.out
    refine wp_region_held_drew (S := fun W => Below base.heap.size base W) (by kernel_rfl) HS3.out (fun hHeld => ?_)
    refine wpAnyH_take (i := 0) (v := ?v0p) (by simp only [List.getElem?_toArray, List.getElem?_cons_succ, List.getElem?_cons_zero]; rfl) (by kernel_rfl) (by kernel_rfl) (by kernel_rfl) (by exact fun _ _ _ h => h) (Or.inl ⟨by rfl, ?h0p⟩) (by assumption) ?_
    case h0p => (intro W hSw; (try dsimp only at hSw); go_simp; try with_reducible rfl)
    try simp only [Act.put, List.setIfInBounds_toArray, List.set_cons_zero, List.set_cons_succ]
    refine wpAnyH_take (i := 1) (v := ?v1p) (by simp only [List.getElem?_toArray, List.getElem?_cons_succ, List.getElem?_cons_zero]; rfl) (by kernel_rfl) (by kernel_rfl) (by kernel_rfl) (by exact fun _ _ _ h => h) (Or.inl ⟨by rfl, ?h1p⟩) (by assumption) ?_
    case h1p => (intro W hSw; (try dsimp only at hSw); go_simp; try with_reducible rfl)
    try simp only [Act.put, List.setIfInBounds_toArray, List.set_cons_zero, List.set_cons_succ]
    refine wpAnyH_take (i := 3) (v := ?v3p) (by simp only [List.getElem?_toArray, List.getElem?_cons_succ, List.getElem?_cons_zero]; rfl) (by kernel_rfl) (by kernel_rfl) (by kernel_rfl) (by exact fun _ _ _ h => h) (Or.inl ⟨by rfl, ?h3p⟩) (by assumption) ?_
    case h3p => (intro W hSw; (try dsimp only at hSw); go_simp; try with_reducible rfl)
    try simp only [Act.put, List.setIfInBounds_toArray, List.set_cons_zero, List.set_cons_succ]
    refine wpAnyH_take (i := 5) (v := ?v5p) (by simp only [List.getElem?_toArray, List.getElem?_cons_succ, List.getElem?_cons_zero]; rfl) (by kernel_rfl) (by kernel_rfl) (by kernel_rfl) (by exact fun _ _ _ h => h) (Or.inl ⟨by rfl, ?h5p⟩) (by assumption) ?_
    case h5p => (intro W hSw; (try dsimp only at hSw); go_simp; try with_reducible rfl)
    try simp only [Act.put, List.setIfInBounds_toArray, List.set_cons_zero, List.set_cons_succ]
    refine wpAnyH_ready (rs := [2]) (by kernel_rfl) (by simp) ?_
    refine AllReadyH.cons (by simp only [List.getElem?_toArray, List.getElem?_cons_succ, List.getElem?_cons_zero]; rfl) (fun K hK => ?_) AllReadyH.nil
    refine step_app (by rfl) (.tmp 24) (.tmp 25) rfl Try.underlying24 infoU8 base.heap.size _ _ _ rfl O3.out _ _ _ _ rfl SM8.out (by simp only [List.length_take]; have := PL.out; omega) hS3.size ?_
    intro A4 n4 c4 w4 hown4 hb4
    have hS4 : Below base.heap.size base w4 := hS3.trans hb4
    refine hK _ _ hS4 (fun hH4 => ?_)
    clear hK K
    try simp only [Act.put, List.setIfInBounds_toArray, List.set_cons_zero, List.set_cons_succ]
    refine wpAnyH_ready (rs := [4]) (by kernel_rfl) (by simp) ?_
    refine AllReadyH.cons (by simp only [List.getElem?_toArray, List.getElem?_cons_succ, List.getElem?_cons_zero]; rfl) (fun K hK => ?_) AllReadyH.nil
    refine step_app (by rfl) (.tmp 26) (.tmp 27) rfl Try.underlying24 infoU8 base.heap.size _ _ _ rfl hown4 _ _ _ _ rfl (KEY.out _ hS4) (by have := PL.out; have := KL.out; simp only [List.length_append, List.length_take]; omega) hS4.size ?_
    intro A5 n5 c5 w5 hown5 hb5
    have hS5 : Below base.heap.size base w5 := hS4.trans hb5
    refine hK _ _ hS5 (fun hH5 => ?_)
    clear hK K
    try simp only [Act.put, List.setIfInBounds_toArray, List.set_cons_zero, List.set_cons_succ]
    refine wpAnyH_ready (rs := [6]) (by kernel_rfl) (by simp) ?_
    refine AllReadyH.cons (by simp only [List.getElem?_toArray, List.getElem?_cons_succ, List.getElem?_cons_zero]; rfl) (fun K hK => ?_) AllReadyH.nil
    refine step_app (by rfl) (.tmp 28) (.tmp 29) rfl Try.underlying24 infoU8 base.heap.size _ _ _ rfl hown5 _ _ _ _ rfl (BB.out _ hS5) (by have := PL.out; have := KL.out; have := LL.out; simp only [List.length_append, List.length_take]; omega) hS5.size ?_
    intro A6 n6 c6 w6 hown6 hb6
    have hS6 : Below base.heap.size base w6 := hS5.trans hb6
    refine hK _ _ hS6 (fun hH6 => ?_)
    clear hK K
    try simp only [Act.put, List.setIfInBounds_toArray, List.set_cons_zero, List.set_cons_succ]
    refine wpAnyH_take (i := 7) (v := ?v7p) (by simp only [List.getElem?_toArray, List.getElem?_cons_succ, List.getElem?_cons_zero]; rfl) (by kernel_rfl) (by kernel_rfl) (by kernel_rfl) (by exact fun _ _ _ h => h) (Or.inl ⟨by rfl, ?h7p⟩) (by assumption) ?_
    case h7p => (intro W hSw; (try dsimp only at hSw); go_simp; try with_reducible rfl)
    try simp only [Act.put, List.setIfInBounds_toArray, List.set_cons_zero, List.set_cons_succ]
    refine wpAnyH_take (i := 8) (v := ?v8p) (by simp only [List.getElem?_toArray, List.getElem?_cons_succ, List.getElem?_cons_zero]; rfl) (by kernel_rfl) (by kernel_rfl) (by kernel_rfl) (by exact fun _ _ _ h => h) (Or.inl ⟨by rfl, ?h8p⟩) (by assumption) ?_
    case h8p => (intro W hSw; (try dsimp only at hSw); go_simp; try with_reducible rfl)
    try simp only [Act.put, List.setIfInBounds_toArray, List.set_cons_zero, List.set_cons_succ]
    refine wpAnyH_done (by kernel_rfl) ?_ _
    go_wp2_with fail
    go_ret2
    rw [FR.out]
    exact ⟨A6, n6, c6, rfl, hown6.less (by have := BS.out; omega), B0.out.trans (hS6.mono B0.out.size)⟩
end Go.Proofs.Ytadagbkfemcgfaa
