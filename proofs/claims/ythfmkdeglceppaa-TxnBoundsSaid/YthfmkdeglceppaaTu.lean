/-
  Own work. The statements of layer 7: TxnBounds.
-/
import Derived.Test.YthfmkdeglceppaaTg
import Derived.Test.YthfmkdeglceppaaRo
namespace Go.Proofs.Ythfmkdeglceppaa
open Go.RowKit Go.Maps
set_option linter.unusedVariables false
set_option linter.unusedSimpArgs false

/-- The first k of h sectors written with s. -/
def bwL (h : Nat) (s : ByteArray) (k : Nat) : List ByteArray := (List.range h).map fun i => if i < k then s else emp
theorem bwL_len (h : Nat) (s : ByteArray) (k : Nat) : (bwL h s k).length = h := by simp [bwL]
theorem bwL_at (h : Nat) (s : ByteArray) (k i : Nat) (hi : i < h) : (bwL h s k).getD i emp = if i < k then s else emp := by
  unfold bwL
  rw [List.getD_eq_getElem?_getD, List.getElem?_map, List.getElem?_range hi]
  rfl
theorem bwL_zero (h : Nat) (s : ByteArray) : bwL h s 0 = List.replicate h emp := by
  unfold bwL
  apply List.ext_getElem?
  intro i
  rw [List.getElem?_map, List.getElem?_replicate]
  by_cases hi : i < h
  · rw [List.getElem?_range hi, if_pos hi]
    rfl
  · rw [List.getElem?_eq_none (by simp; omega), if_neg hi]
    rfl
theorem bwL_set (h : Nat) (s : ByteArray) (k : Nat) (hk : k < h) : (bwL h s k).set k s = bwL h s (k + 1) := by
  unfold bwL
  apply List.ext_getElem?
  intro i
  rw [List.getElem?_set, List.length_map, List.length_range, List.getElem?_map, List.getElem?_map]
  by_cases hi : i < h
  · rw [List.getElem?_range hi]
    by_cases e : k = i
    · subst e
      rw [if_pos rfl, if_pos hi, Option.map_some, if_pos (by omega)]
    · rw [if_neg e, Option.map_some, Option.map_some]
      by_cases h1 : i < k
      · rw [if_pos h1, if_pos (by omega)]
      · rw [if_neg h1, if_neg (by omega)]
  · rw [List.getElem?_eq_none (l := List.range h) (by simp; omega), if_neg (by omega)]
    rfl
theorem bwL_cnt (h : Nat) (s : ByteArray) (hs : s.size ≠ 0) : ∀ k, k ≤ h → (frK (bwL h s k) h).length = k
  | 0, _ => by rw [bwL_zero, frK_rep]
  | k + 1, hk => by
    rw [← bwL_set h s k (by omega), frK_cnt (by rw [bwL_len]; omega) hs, bwL_cnt h s hs k (by omega), if_pos]
    exact ⟨by omega, by rw [bwL_at _ _ _ _ (by omega), if_neg (by omega)]; rfl⟩
set_option maxRecDepth 100000 in
set_option maxHeartbeats 4000000 in
theorem txnbounds_law (Z : DK) (a0 : Int) (b : Option Addr) (bn bc : Nat) (d : List UInt8) (w : World) (h0 : -9223372036854775808 ≤ a0 ∧ a0 ≤ 9223372036854775807) (hd : HasB w w.heap.size b bn d) :
    Calls Try.prog 8 #[.int .i64 a0, .slice b bn bc] w (RetTrue w) := by
  have CB := Lib.hid (fun W => begun7_any Z W)
  have HD := Lib.hid hd
  by_cases hl : 512 < bn
  · have hl1 : (512 : Int) < (bn : Int) := by omega
    clear hd h0
    go_enter Try.func8, Try.ntmps8
    go_wp2_with (first
      | (go_at_call 29; refine (CB.out _).mono ?_; rintro e w1 ⟨rfl, b1⟩
         have B1 := Lib.hid b1
         clear b1))
    go_ret
    exact ⟨rfl, B1.out⟩
  have hl1 : ¬ (512 : Int) < (bn : Int) := by omega
  have CP0 := Lib.hid (fun W => place_any a0 61 W h0 (by omega) (by omega))
  have CM : Hid (∀ W, Below w.heap.size w W → Calls Try.prog 30 #[.int .i64 128, .int .i64 60] W (MadeUp Z w 128 60)) := Lib.hid (fun W hb => made_any Z w W hb 128 60 (by omega) (by omega) (by omega) (by omega) (by omega))
  obtain ⟨D, hD⟩ : ∃ D, fullL d = D := ⟨_, rfl⟩
  obtain ⟨D0, hD0⟩ : ∃ D, fullL [] = D := ⟨_, rfl⟩
  have l1 : D.length = 512 := by rw [← hD]; exact fullL_len _
  have l0 : D0.length = 512 := by rw [← hD0]; exact fullL_len _
  have FC : Hid (∀ W, Below w.heap.size w W → Calls Try.prog 24 #[.slice b bn bc] W (RetB W D)) := Lib.hid (fun W hb => by have := full_any b bn bc d W W.heap.size (HD.out.on hb) (Nat.le_refl _); rwa [hD] at this)
  have FC0 : Hid (∀ W, Calls Try.prog 24 #[.slice none 0 0] W (RetB W D0)) := Lib.hid (fun W => by have := full_any none 0 0 [] W W.heap.size (HasB.nil _ _ _) (Nat.le_refl _); rwa [hD0] at this)
  obtain ⟨s, hs⟩ : ∃ s, strB D = s := ⟨_, rfl⟩
  have hsz : s.size ≠ 0 := by rw [← hs, strB_size]; omega
  obtain ⟨s0, hs0⟩ : ∃ s, strB D0 = s := ⟨_, rfl⟩
  have hsz0 : s0.size ≠ 0 := by rw [← hs0, strB_size]; omega
  have HS := Lib.hid hs
  have HS0 := Lib.hid hs0
  have SZ := Lib.hid hsz
  have SZ0 := Lib.hid hsz0
  have L1 := Lib.hid l1
  have L0 := Lib.hid l0
  clear hd h0 hl hD hD0 l1 l0 hs hs0 hsz hsz0
  go_enter Try.func8, Try.ntmps8
  go_upto_region 11 with (first
    | (go_at_call 29; refine (CB.out _).mono ?_; rintro e w1 ⟨rfl, b1⟩
       have B1 := Lib.hid b1
       clear b1)
    | (go_at_call 30; refine (CM.out _ B1.out).mono ?_; rintro e w2 ⟨gd, g, gp, p, j, rfl, u2, s2, _⟩
       have U2 := Lib.hid u2
       have S2 := Lib.hid s2
       clear u2 s2)
    | (go_at_call 31; refine (begin_up U2.out S2.out (by omega)).mono ?_; rintro e w3 ⟨gt, gm, rfl, t3, u3, hg3, hgm3, y3⟩
       have t3' : TO w3 gt g 0 66 0 (List.replicate 66 emp) (fun k => k = gm) := t3
       rw [← bwL_zero 66 s] at t3'
       have T3 := Lib.hid t3'
       have U3 : Hid (UpB Z w w3 g gd gp 128 p j (fun k => k = gt ∨ k = gm)) := Lib.hid (u3.less (fun k hk => .inr hk))
       clear t3 t3' u3 y3)
    | (go_at_call 12; refine (CP0.out _).mono ?_; rintro e w4 ⟨⟨N, hN, rfl⟩, rfl⟩))
  go_loopw [9] (fun x wr => ∃ (k q : Nat) (M : Nat → Prop), k ≤ N ∧ x = .int .i64 (k : Int) ∧ TO wr gt g 0 66 q (bwL 66 s (min k 40)) M ∧ q ≤ k ∧ UpB Z w wr g gd gp 128 p j (fun k => k = gt ∨ M k)) (fun x _ => N - (Go.RowKit.intOf x).toNat)
  case atStart => exact ⟨0, 0, _, Nat.zero_le _, rfl, T3.out, Nat.le_refl _, U3.out⟩
  case round =>
    obtain ⟨k, q, M, hk, rfl, qt, qq, qu⟩ := hrel
    obtain ⟨W1, rfl⟩ : ∃ W, W = wr := ⟨_, rfl⟩
    have QT := Lib.hid qt
    have QU := Lib.hid qu
    clear qt qu
    by_cases hlt : k < N
    · by_cases h40 : k < 40
      · have h40' : (k : Int) < 40 := by omega
        go_wp2_with (first
          | (go_at_call 24; refine (FC.out _ QU.out.up.bel).mono ?_; rintro e w5 ⟨A5, n5, c5, rfl, own5, b5⟩
             have hn5 := own5.len
             rw [L1.out] at hn5
             subst hn5
             have O5 := Lib.hid own5
             have t5 := QT.out.below b5
             rw [show min k 40 = k by omega] at t5
             have T5 := Lib.hid t5
             have U5 := Lib.hid (QU.out.below b5)
             clear own5 b5 t5)
          | (go_at_call 33; refine (write_up U5.out S2.out (by omega) T5.out (.inl rfl) (fun k hk => .inr hk) k (by omega) _ _ D O5.out.x.has L1.out O5.out.x.caps.1 (.inr (by show (frK (bwL 66 s k) 66).length < 40; rw [bwL_cnt _ _ SZ.out k (by omega)]; exact h40)) (by omega)).mono ?_; rintro e w6 ⟨rfl, M6, t6, u6, hM6, y6⟩
             have t6' : TO w6 gt g 0 66 (q + 1) ((bwL 66 s k).set k (strB D)) M6 := t6
             rw [HS.out, bwL_set 66 s k (by omega)] at t6'
             have T6 := Lib.hid t6'
             have U6 : Hid (UpB Z w w6 g gd gp 128 p j (fun k => k = gt ∨ M6 k)) := Lib.hid (u6.less (fun k hk => hk.elim (fun h => .inl (.inl h)) .inr))
             clear t6 t6' u6 hM6 y6))
        go_roundw
        case rel => exact ⟨k + 1, q + 1, M6, by omega, by go_num, by rw [show min (k + 1) 40 = k + 1 by omega]; exact T6.out, by omega, U6.out⟩
        case measure => simp [Go.RowKit.intOf]; omega
      · have h40' : ¬ (k : Int) < 40 := by omega
        have h40'' : (40 : Int) ≤ (k : Int) := by omega
        go_wp2_with (first
          | (go_at_call 24; refine (FC.out _ QU.out.up.bel).mono ?_; rintro e w5 ⟨A5, n5, c5, rfl, own5, b5⟩
             have hn5 := own5.len
             rw [L1.out] at hn5
             subst hn5
             have t5 := QT.out.below b5
             rw [show min k 40 = 40 by omega] at t5
             have T5 := Lib.hid t5
             have U5 := Lib.hid (QU.out.below b5)
             clear own5 b5 t5)
          | (go_at_call 33; refine (twrite_long T5.out U5.out (S2.out.jok (by omega)).2.1 (S2.out.homes).1 k (by omega) _ _ (by rw [bwL_at _ _ _ _ (by omega), if_neg (by omega)]; rfl) (by rw [bwL_cnt _ _ SZ.out 40 (by omega)]; omega)).mono ?_; rintro e w6 ⟨rfl, b6⟩
             have T6 := Lib.hid (T5.out.below b6)
             have U6 := Lib.hid (U5.out.below b6)
             clear b6))
        go_roundw
        case rel => exact ⟨k + 1, q, M, by omega, by go_num, by rw [show min (k + 1) 40 = 40 by omega]; exact T6.out, by omega, U6.out⟩
        case measure => simp [Go.RowKit.intOf]; omega
    · obtain rfl : k = N := by omega
      obtain ⟨m, hm⟩ : ∃ m, min k 40 = m := ⟨_, rfl⟩
      have hm40 : m ≤ 40 := by omega
      have hmv : (if (40 : Int) < (k : Int) then (40 : Int) else (k : Int)) = (m : Int) := by
        by_cases h4 : 40 < k
        · rw [if_pos (by omega)]; omega
        · rw [if_neg (by omega)]; omega
      have qt := QT.out
      rw [hm] at qt
      have QT' := Lib.hid qt
      have tt := ttouch_any qt
      rw [bwL_cnt _ _ SZ.out m (by omega)] at tt
      have CT := Lib.hid tt
      have MV := Lib.hid hmv
      have HM := Lib.hid hm
      have RH : Hid (∀ W M ws q, TO W gt g 0 66 q ws M → UpB Z w W g gd gp 128 p j (fun k => k = gt ∨ M k) → Calls Try.prog 32 #[.pointer (some ⟨gt, 0, none⟩)] W (RetV2 W (.int .i64 66))) := Lib.hid (fun W M ws q t u => by
        have := thomes_any t u (S2.out.jok (by omega)).2.1
        rw [(S2.out.homes).1] at this
        exact this)
      have RA : Hid (∀ W M ws q i b, TO W gt g 0 66 q ws M → UpB Z w W g gd gp 128 p j (fun k => k = gt ∨ M k) → (i = -1 ∨ i = 66) → Calls Try.prog 33 #[.pointer (some ⟨gt, 0, none⟩), .int .i64 i, b] W (RetV2 W (.int .i64 1))) := Lib.hid (fun W M ws q i b t u hi => twrite_arg t u (S2.out.jok (by omega)).2.1 (S2.out.homes).1 i (by omega) (by rcases hi with rfl | rfl; exact .inl (by omega); exact .inr (by show ((66 : Nat) : Int) ≤ 66; omega)) b)
      clear QT qt tt hmv hm
      by_cases hk0 : k = 0
      · subst hk0
        go_wp2_with (first
          | (refine wpList_minR (by rfl) (.tmp 55) (.const (.int .i64 40)) rfl _ _ (m : Int) rfl rfl MV.out ?_)
          | (go_at_call 35; refine (ttouch_no TN10.out).mono ?_; rintro e w11 ⟨rfl, rfl⟩)
          | (go_at_call 35; refine CT.out.mono ?_; rintro e w4 ⟨rfl, rfl⟩)
          | (go_at_call 34; refine CC9.out.mono ?_; rintro e w10 ⟨rfl, z10, ⟨p10, j10, T10, v10, u10, _, _, _⟩, _⟩
             have TN10 : Hid (TN w10 (.pointer (some ⟨gt, 0, none⟩))) := Lib.hid (.inr ⟨gt, rfl, z10⟩)
             have U10 := Lib.hid u10
             clear z10 u10)
          | (go_at_call 32; refine (RH.out _ _ _ _ T6.out U6.out).mono ?_; rintro e w7 ⟨rfl, b7⟩
             have T7 := Lib.hid (T6.out.below b7)
             have U7 := Lib.hid (U6.out.below b7)
             clear b7)
          | (go_at_call 24; refine (FC.out _ U7.out.up.bel).mono ?_; rintro e w8 ⟨A8, n8, c8, rfl, own8, b8⟩
             have T8 := Lib.hid (T7.out.below b8)
             have U8 := Lib.hid (U7.out.below b8)
             clear own8 b8)
          | (go_at_call 24; refine (FC.out _ QU.out.up.bel).mono ?_; rintro e w5 ⟨A5, n5, c5, rfl, own5, b5⟩
             have T5 := Lib.hid (QT'.out.below b5)
             have U5 := Lib.hid (QU.out.below b5)
             clear own5 b5)
          | (go_at_call 33; refine (RA.out _ _ _ _ _ _ T8.out U8.out (.inr rfl)).mono ?_; rintro e w9 ⟨rfl, b9⟩
             have t9 := T8.out.below b9
             have CC9 := Lib.hid (commit_tx (U8.out.below b9) S2.out (by omega) t9 (.inl rfl) (by show (frK (bwL 66 s m) 66).length ≤ 40; rw [bwL_cnt _ _ SZ.out m (by omega)]; omega) (by show (frK (bwL 66 s m) 66).length < 60; rw [bwL_cnt _ _ SZ.out m (by omega)]; omega) (by omega))
             clear b9 t9)
          | (go_at_call 33; refine (RA.out _ _ _ _ _ _ T5.out U5.out (.inl rfl)).mono ?_; rintro e w6 ⟨rfl, b6⟩
             have T6 := Lib.hid (T5.out.below b6)
             have U6 := Lib.hid (U5.out.below b6)
             clear b6))
        go_ret
        exact ⟨rfl, U10.out.up.bel⟩
      · have hk0' : ((k : Int) == 0) = false := by rw [beq_eq_false_iff_ne]; omega
        have CNT : Hid ((frK ((bwL 66 s m).set 0 s0) 66).length = m) := Lib.hid (by
          have hm0 : 0 < m := by have := HM.out; omega
          have hn : ¬ (0 < 66 ∧ ((bwL 66 s m).getD 0 emp).size = 0) := by
            rw [bwL_at _ _ _ _ (by omega), if_pos hm0]
            exact fun h => SZ.out h.2
          rw [frK_cnt (by rw [bwL_len]; omega) SZ0.out, bwL_cnt _ _ SZ.out m (by omega), if_neg hn, Nat.add_zero])
        have hm1 : 1 ≤ m := by have := HM.out; omega
        clear hk0
        go_wp2_with (first
          | (refine wpList_minR (by rfl) (.tmp 55) (.const (.int .i64 40)) rfl _ _ (m : Int) rfl rfl MV.out ?_)
          | (go_at_call_of 24 (Value.slice none 0 0); refine (FC0.out _).mono ?_; rintro e v5 ⟨A5', n5', c5', rfl, own5', b5'⟩
             have hn5' := own5'.len
             rw [L0.out] at hn5'
             subst hn5'
             have OV := Lib.hid own5'
             have TV5 := Lib.hid (QT'.out.below b5')
             have UV5 := Lib.hid (QU.out.below b5')
             clear own5' b5')
          | (go_at_call 35; refine (ttouch_no TN10.out).mono ?_; rintro e w11 ⟨rfl, rfl⟩)
          | (go_at_call 35; refine CT.out.mono ?_; rintro e w4 ⟨rfl, rfl⟩)
          | (go_at_call 34; refine CC9.out.mono ?_; rintro e w10 ⟨rfl, z10, ⟨p10, j10, T10, v10, u10, _, _, _⟩, _⟩
             have TN10 : Hid (TN w10 (.pointer (some ⟨gt, 0, none⟩))) := Lib.hid (.inr ⟨gt, rfl, z10⟩)
             have U10 := Lib.hid u10
             clear z10 u10)
          | (go_at_call 32; refine (RH.out _ _ _ _ T6.out U6.out).mono ?_; rintro e w7 ⟨rfl, b7⟩
             have T7 := Lib.hid (T6.out.below b7)
             have U7 := Lib.hid (U6.out.below b7)
             clear b7)
          | (go_at_call 24; refine (FC.out _ U7.out.up.bel).mono ?_; rintro e w8 ⟨A8, n8, c8, rfl, own8, b8⟩
             have T8 := Lib.hid (T7.out.below b8)
             have U8 := Lib.hid (U7.out.below b8)
             clear own8 b8)
          | (go_at_call 24; refine (FC.out _ UV6.out.up.bel).mono ?_; rintro e w5 ⟨A5, n5, c5, rfl, own5, b5⟩
             have T5 := Lib.hid (TV6.out.below b5)
             have U5 := Lib.hid (UV6.out.below b5)
             clear own5 b5)
          | (go_at_call 33; refine (RA.out _ _ _ _ _ _ T8.out U8.out (.inr rfl)).mono ?_; rintro e w9 ⟨rfl, b9⟩
             have t9 := T8.out.below b9
             have CC9 := Lib.hid (commit_tx (U8.out.below b9) S2.out (by omega) t9 (.inl rfl) (by show (frK ((bwL 66 s m).set 0 s0) 66).length ≤ 40; rw [CNT.out]; omega) (by show (frK ((bwL 66 s m).set 0 s0) 66).length < 60; rw [CNT.out]; omega) (by omega))
             clear b9 t9)
          | (go_at_call 33; refine (RA.out _ _ _ _ _ _ T5.out U5.out (.inl rfl)).mono ?_; rintro e w6 ⟨rfl, b6⟩
             have T6 := Lib.hid (T5.out.below b6)
             have U6 := Lib.hid (U5.out.below b6)
             clear b6)
          | (go_at_call 33; refine (write_up UV5.out S2.out (by omega) TV5.out (.inl rfl) (fun k hk => .inr hk) 0 (by omega) _ _ D0 OV.out.x.has L0.out OV.out.x.caps.1 (.inl (by rw [bwL_at _ _ _ _ (by omega), if_pos (by omega)]; exact SZ.out)) (by omega)).mono ?_; rintro e v6 ⟨rfl, MV6, tv6, uv6, _, _⟩
             have tv6' : TO v6 gt g 0 66 (q + 1) ((bwL 66 s m).set 0 (strB D0)) MV6 := tv6
             rw [HS0.out] at tv6'
             have TV6 := Lib.hid tv6'
             have UV6 : Hid (UpB Z w v6 g gd gp 128 p j (fun k => k = gt ∨ MV6 k)) := Lib.hid (uv6.less (fun k hk => hk.elim (fun h => .inl (.inl h)) .inr))
             clear tv6 tv6' uv6))
        go_ret
        exact ⟨rfl, U10.out.up.bel⟩
end Go.Proofs.Ythfmkdeglceppaa
