/-
  The law ShaCuts walked: however bytes are cut, the hash is the same.
-/
import Derived.Test.YtlgjoeabogbknaaCt
namespace Go.Proofs.Ytlgjoeabogbknaa
open Go.RowKit
set_option linter.unusedVariables false
set_option linter.unusedSimpArgs false

/-- What ShaCuts holds beside its two hashes: two lists of pieces. -/
def CutsR (w wr : World) (g g' : Nat) (vA vB : Value) (hsA hsB : List Value) (lsA lsB : List (List UInt8)) : Prop :=
  w.heap.size ≤ g ∧ g < g' ∧ OwnL wr (g' + 1) vA hsA ∧ OwnL wr (g' + 1) vB hsB ∧ Pieces wr w.heap.size hsA lsA ∧ Pieces wr w.heap.size hsB lsB ∧ Below w.heap.size w wr
section
variable {w wr w' : World} {g g' : Nat} {vA vB : Value} {hsA hsB : List Value} {lsA lsB : List (List UInt8)}
theorem CutsR.below (h : CutsR w wr g g' vA vB hsA hsB lsA lsB) (hb : Below wr.heap.size wr w') : CutsR w w' g g' vA vB hsA hsB lsA lsB := by
  obtain ⟨h1, h2, h3, h4, h5, h6, h7⟩ := h
  exact ⟨h1, h2, h3.below hb, h4.below hb, h5.below (hb.mono h7.size), h6.below (hb.mono h7.size), h7.trans (hb.mono h7.size)⟩
theorem CutsR.grown {k : Nat} (h : CutsR w wr g g' vA vB hsA hsB lsA lsB) (hg : wr.grownBy w' (some k)) (hk1 : g ≤ k) (hk2 : k ≤ g') : CutsR w w' g g' vA vB hsA hsB lsA lsB := by
  obtain ⟨h1, h2, h3, h4, h5, h6, h7⟩ := h
  have hb : Below w.heap.size w w' := below_row h7 hg (by omega) h7.size
  have hb2 : Below w.heap.size wr w' := below_row (Below.refl _ _) hg (by omega) h7.size
  have hne : ∀ {v : Value} {hs : List Value}, OwnL wr (g' + 1) v hs → v.ownBlock = none ∨ v.ownBlock ≠ some k := by
    intro v hs ho
    right
    intro e
    have := (ho.lt k e).1
    omega
  exact ⟨h1, h2, h3.kept hg (hne h3), h4.kept hg (hne h4), h5.below hb2, h6.below hb2, hb⟩
theorem OwnL.less {b b' : Nat} {v : Value} {hs : List Value} (h : OwnL wr b v hs) (hb : b' ≤ b) : OwnL wr b' v hs := by
  refine ⟨h.1, ?_⟩
  rcases h.2 with h2 | ⟨g, c, cur, e, h3, r⟩
  · exact .inl h2
  · exact .inr ⟨g, c, cur, e, by omega, r⟩
end
/-- One piece of a list. -/
theorem piece_at {w : World} {base B n c k : Nat} {A : Option Addr} {hs : List Value} {ls : List (List UInt8)} (ho : OwnL w base (.slice A n c) hs) (hp : Pieces w B hs ls) (hk : k < n) :
    ∃ (g : Nat) (l : List UInt8) (Ai : Option Addr) (ni ci : Nat), A = some ⟨g, 0, none⟩ ∧ ls[k]? = some l ∧ w.cell? ⟨g, k, none⟩ = some (.slice Ai ni ci) ∧ ni ≤ ci ∧ HasB w B Ai ni l := by
  have hn := ho.len
  obtain ⟨g, e, _, _, hc⟩ := ho.at_ (by omega)
  obtain ⟨l, hl⟩ : ∃ l, ls[k]? = some l := ⟨_, List.getElem?_eq_getElem (by rw [← hp.1]; omega)⟩
  obtain ⟨Ai, ni, ci, h1, h2, h3⟩ := hp.2 k l hl
  exact ⟨g, l, Ai, ni, ci, e, hl, hc k _ h1, h2, h3⟩

set_option maxRecDepth 100000 in
set_option maxHeartbeats 1000000 in
theorem cuts_ok (A A1 A2 : Option Addr) (n c n1 c1 n2 c2 : Nat) (bs : List UInt8) (z1 z2 : List Int) (w : World) (ha : HasB w w.heap.size A n bs) (h1 : HasI w w.heap.size A1 n1 z1) (h2 : HasI w w.heap.size A2 n2 z2)
    (hc : n ≤ c) (hcm : c ≤ maxLen) (hn : n ≤ 16384) (hn1 : n1 ≤ 1024) (hn2 : n2 ≤ 1024) (hc1 : n1 ≤ c1) (hc2 : n2 ≤ c2) :
    Calls Try.prog 4 #[.slice A n c, .slice A1 n1 c1, .slice A2 n2 c2] w (RetTrue w) := by
  have HA := Lib.hid ha
  have H1 := Lib.hid h1
  have H2 := Lib.hid h2
  have HCM := Lib.hid hcm
  have hbl : bs.length ≤ 16384 := by rw [← ha.len]; exact hn
  have HBL := Lib.hid hbl
  clear ha h1 h2 hcm hbl
  go_enter Try.func4, Try.ntmps4
  go_upto_region 6 with (first
    | (go_at_call 9; refine (begun_any _).mono ?_; rintro e w1 ⟨rfl, b1⟩
       have B1 := Lib.hid b1
       clear b1)
    | (go_at_call 12; refine (new_any _).mono ?_; rintro e w3 ⟨g', rfl, hg', hd3, b3⟩
       have hgg : g < g' := Nat.lt_of_lt_of_le HD2.out.lt hg'
       have hd2' := HD2.out.below b3 HD2.out.lt
       have b3' := B2.out.trans (b3.mono B2.out.size)
       have HGG := Lib.hid hgg
       have HD3 := Lib.hid hd3
       have HD2' := Lib.hid hd2'
       have B3 := Lib.hid b3'
       clear hg' hd3 b3 b3' hgg hd2')
    | (go_at_call 12; refine (new_any _).mono ?_; rintro e w2 ⟨g, rfl, hg, hd2, b2⟩
       have hgw : w.heap.size ≤ g := Nat.le_trans B1.out.size hg
       have b2' := B1.out.trans (b2.mono B1.out.size)
       have HGW := Lib.hid hgw
       have HD2 := Lib.hid hd2
       have B2 := Lib.hid b2'
       clear hg hd2 b2 b2' hgw))
  have hnB : n ≤ 1073741824 := by omega
  go_wp2_with (first
    | (go_at_call_of 19 A2; refine (cut_any A A2 w.heap.size n c n2 c2 bs z2 _ (HA.out.below B4.out) B4.out.size (H2.out.on B4.out) hc HCM.out hnB hn2).mono ?_; rintro e w5 ⟨A5, n5, c5, hs5, ls5, rfl, ho5, hp5, hf5, hn5, b5⟩
       have hcr : CutsR w w5 g g' (.slice A4 n4 c4) (.slice A5 n5 c5) hs4 hs5 ls4 ls5 :=
         ⟨HGW.out, HGG.out, HO4.out.below b5, ho5.less (by have := HD3'.out.lt; omega), HP4.out.below (b5.mono B4.out.size), hp5, B4.out.trans (b5.mono B4.out.size)⟩
       have hd5 := HD2''.out.below b5 HD2''.out.lt
       have hd5' := HD3'.out.below b5 HD3'.out.lt
       have HCR := Lib.hid hcr
       have HD5 := Lib.hid hd5
       have HD5' := Lib.hid hd5'
       have HF5 := Lib.hid hf5
       have HN5 := Lib.hid hn5
       clear ho5 hp5 hf5 hn5 b5 hcr hd5 hd5')
    | (go_at_call 19; refine (cut_any A A1 w.heap.size n c n1 c1 bs z1 _ (HA.out.below B3.out) B3.out.size (H1.out.on B3.out) hc HCM.out hnB hn1).mono ?_; rintro e w4 ⟨A4, n4, c4, hs4, ls4, rfl, ho4, hp4, hf4, hn4, b4⟩
       have ho4' := ho4.less (show g' + 1 ≤ w3.heap.size from HD3.out.lt)
       have hd4 := HD2'.out.below b4 HD2'.out.lt
       have hd4' := HD3.out.below b4 HD3.out.lt
       have b4' := B3.out.trans (b4.mono B3.out.size)
       have HO4 := Lib.hid ho4'
       have HP4 := Lib.hid hp4
       have HD2'' := Lib.hid hd4
       have HD3' := Lib.hid hd4'
       have HF4 := Lib.hid hf4
       have HN4 := Lib.hid hn4
       have B4 := Lib.hid b4'
       clear ho4 hp4 hf4 hn4 b4 ho4' hd4 hd4' b4'))
  have hl4 := HCR.out.2.2.1.len
  have hl5 := HCR.out.2.2.2.1.len
  have hm4 : n4 = ls4.length := by rw [hl4, HCR.out.2.2.2.2.1.1]
  have hm5 : n5 = ls5.length := by rw [hl5, HCR.out.2.2.2.2.2.1.1]
  have HM4 := Lib.hid hm4
  have HM5 := Lib.hid hm5
  have hk4 : n4 ≤ 1025 := HN4.out
  have hk5 : n5 ≤ 1025 := HN5.out
  clear hl4 hl5 hm4 hm5 HO4 HP4 HD2'' HD3' B4 HD2' HD3 B3 HD2 B2 B1
  go_loopw [11] (fun x wr => ∃ k : Nat, k ≤ n4 ∧ x = .int .i64 (k : Int) ∧ CutsR w wr g g' (.slice A4 n4 c4) (.slice A5 n5 c5) hs4 hs5 ls4 ls5 ∧ HashD wr g (ls4.take k).flatten ∧ HashD wr g' []) (fun x _ => n4 - (intOf x).toNat)
  case atStart => exact ⟨0, by omega, rfl, HCR.out, HD5.out, HD5'.out⟩
  case round =>
    obtain ⟨k, hk, rfl, hR, hD, hD'⟩ := hrel
    by_cases hlt : k < n4
    · obtain ⟨g4, l, Ai, ni, ci, rfl, hl, hcell, hni, hhas⟩ := piece_at hR.2.2.1 hR.2.2.2.2.1 hlt
      have hsrc : Src wr g Ai ni l := Src.of_below hhas hR.1 hD.lt
      have hsn := flat_snoc ls4 k l hl
      have hll : (ls4.take k).flatten.length + l.length ≤ 4294967296 := by
        have := flat_len ls4 (k + 1)
        rw [hsn, List.length_append, HF4.out] at this
        have := HBL.out
        omega
      have CW := write_any g ni ci (ls4.take k).flatten l Ai wr hD hsrc hni hll
      rw [← hsn] at CW
      have HR := Lib.hid hR
      have HDD := Lib.hid hD'
      have HCW := Lib.hid CW
      clear hl hhas hsrc hsn hll CW hR hD hD' HCR HD5 HD5'
      go_wp2_with (first
        | (go_at_call 13; refine HCW.out.mono ?_; rintro e w6 ⟨rfl, hd6, hg6⟩
           have HD6 := Lib.hid hd6
           have HG6 := Lib.hid hg6
           clear hd6 hg6))
      go_roundw
      case rel => exact ⟨k + 1, by omega, by go_num, HR.out.grown HG6.out (Nat.le_refl _) (Nat.le_of_lt HR.out.2.1), HD6.out, HDD.out.grown HG6.out (by intro e; injection e with e; have := HR.out.2.1; omega)⟩
      case measure => simp [intOf]; omega
    · obtain rfl : k = n4 := by omega
      rw [List.take_of_length_le (by rw [← HM4.out]; exact Nat.le_refl _), HF4.out] at hD
      have HR := Lib.hid hR
      have HD6 := Lib.hid hD
      have HD6' := Lib.hid hD'
      clear hR hD hD' HCR HD5 HD5'
      go_wp2_with fail
      obtain ⟨wo, rfl⟩ : ∃ wo : World, wo = wr := ⟨_, rfl⟩
      go_loopw [12] (fun x wr => ∃ j : Nat, j ≤ n5 ∧ x = .int .i64 (j : Int) ∧ CutsR w wr g g' (.slice A4 k c4) (.slice A5 n5 c5) hs4 hs5 ls4 ls5 ∧ HashD wr g bs ∧ HashD wr g' (ls5.take j).flatten) (fun x _ => n5 - (intOf x).toNat)
      case atStart => exact ⟨0, by omega, rfl, HR.out, HD6.out, HD6'.out⟩
      case round =>
        obtain ⟨j, hj, rfl, hR, hD, hD'⟩ := hrel
        by_cases hlt2 : j < n5
        · obtain ⟨g5, l, Ai, ni, ci, rfl, hl, hcell, hni, hhas⟩ := piece_at hR.2.2.2.1 hR.2.2.2.2.2.1 hlt2
          have hsrc : Src wr g' Ai ni l := Src.of_below hhas (by have := hR.1; have := hR.2.1; omega) hD'.lt
          have hsn := flat_snoc ls5 j l hl
          have hll : (ls5.take j).flatten.length + l.length ≤ 4294967296 := by
            have := flat_len ls5 (j + 1)
            rw [hsn, List.length_append, HF5.out] at this
            have := HBL.out
            omega
          have hlen2 : (ls5.take (j + 1)).flatten.length ≤ 4294967296 := by rw [hsn, List.length_append]; exact hll
          have CW := write_any g' ni ci (ls5.take j).flatten l Ai wr hD' hsrc hni hll
          rw [← hsn] at CW
          have HR7 := Lib.hid hR
          have HDD := Lib.hid hD
          have HCW := Lib.hid CW
          have HL2 := Lib.hid hlen2
          clear hl hhas hsrc hsn hll CW hR hD hD' HR HD6 HD6' hlen2
          go_wp2_with (first
            | (go_at_call 13; refine HCW.out.mono ?_; rintro e w6 ⟨rfl, hd6, hg6⟩
               have hr6 := HR7.out.grown hg6 (Nat.le_of_lt HR7.out.2.1) (Nat.le_refl _)
               have he6 := HDD.out.grown hg6 (by intro e; injection e with e; have := HR7.out.2.1; omega)
               have HD7 := Lib.hid hd6
               have HR8 := Lib.hid hr6
               have HE8 := Lib.hid he6
               clear hd6 hg6 hr6 he6)
            | (go_at_call 16; refine (sum_any g' _ _ HD7.out HL2.out).mono ?_; rintro e w8 ⟨rfl, hb8⟩
               have HB8 := Lib.hid hb8
               clear hb8))
          go_roundw
          case rel => exact ⟨j + 1, by omega, by go_num, HR8.out.below HB8.out, HE8.out.below HB8.out HE8.out.lt, HD7.out.below HB8.out HD7.out.lt⟩
          case measure => simp [intOf]; omega
        · obtain rfl : j = n5 := by omega
          rw [List.take_of_length_le (by rw [← HM5.out]; exact Nat.le_refl _), HF5.out] at hD'
          have hB := hR.2.2.2.2.2.2
          have hS1 := sum_any g bs wr hD (by have := HBL.out; omega)
          have HBB := Lib.hid hB
          have HS1 := Lib.hid hS1
          have HD9 := Lib.hid hD
          have HE9 := Lib.hid hD'
          clear hB hS1 hR hD hD' HR HD6 HD6'
          go_wp2_with (first
            | (go_at_call_of 16 (Value.pointer (some ⟨g', 0, none⟩)); refine HS2.out.mono ?_; rintro e w10 ⟨rfl, b10⟩
               have b10' := B9.out.trans (b10.mono B9.out.size)
               have hd10 := HD10.out.below b10 HD10.out.lt
               have he10 := HE10.out.below b10 HE10.out.lt
               have hl1 := len_any g bs w10 hd10 (by have := HBL.out; omega)
               have hl2 := len_any g' bs w10 he10 (by have := HBL.out; omega)
               have hs3 := sum_any g bs w10 hd10 (by have := HBL.out; omega)
               have B10 := Lib.hid b10'
               have HL1 := Lib.hid hl1
               have HL2 := Lib.hid hl2
               have HS3 := Lib.hid hs3
               clear b10 b10' hd10 he10 hl1 hl2 hs3)
            | (go_at_call 16; refine HS3.out.mono ?_; rintro e w11 ⟨rfl, b11⟩
               have b11' := B10.out.trans (b11.mono B10.out.size)
               have ho := of_one (HA.out.on b11') hc hnB
               have B11 := Lib.hid b11'
               have HO := Lib.hid ho
               clear b11 b11' ho)
            | (go_at_call 16; refine HS1.out.mono ?_; rintro e w9 ⟨rfl, b9⟩
               have b9' := HBB.out.trans (b9.mono HBB.out.size)
               have hd9 := HD9.out.below b9 HD9.out.lt
               have he9 := HE9.out.below b9 HE9.out.lt
               have hs2 := sum_any g' bs w9 he9 (by have := HBL.out; omega)
               have B9 := Lib.hid b9'
               have HD10 := Lib.hid hd9
               have HE10 := Lib.hid he9
               have HS2 := Lib.hid hs2
               clear b9 b9' hd9 he9 hs2)
            | (go_at_call_of 17 (Value.pointer (some ⟨g, 0, none⟩)); refine HL1.out.mono ?_; rintro e w12 ⟨rfl, rfl⟩)
            | (go_at_call_of 17 (Value.pointer (some ⟨g', 0, none⟩)); refine HL2.out.mono ?_; rintro e w12 ⟨rfl, rfl⟩)
            | (go_at_call 15; refine HO.out.mono ?_; rintro e w12 ⟨rfl, b12⟩
               have b12a := (Below.refl w11.heap.size w11).alloc (Nat.le_refl _) (.cells #[.slice A n c] 29)
               have b12' := B11.out.trans ((b12a.trans (b12.mono (by simp))).mono B11.out.size)
               have B12 := Lib.hid b12'
               clear b12 b12a b12')
            | (refine wpList_eqlG rfl 31 31 (.tmp 63) (.tmp 65) rfl (.agg (cellsB (sumS bs)).toArray) (.agg (cellsB (sumS bs)).toArray) true rfl rfl (guard_id _ _ _ _ _) (eql_id_same _ (sum_len _) _) ?_)
            | (refine wpList_eqlG rfl 31 31 (.tmp 76) (.tmp 79) rfl (.agg (cellsB (sumS bs)).toArray) (.agg (cellsB (sumS bs)).toArray) true rfl rfl (guard_id _ _ _ _ _) (eql_id_same _ (sum_len _) _) ?_))
          go_ret
          exact ⟨by simp, B12.out⟩

theorem cuts_law (A A1 A2 : Option Addr) (n c n1 c1 n2 c2 : Nat) (bs : List UInt8) (z1 z2 : List Int) (w : World) (ha : HasB w w.heap.size A n bs) (h1 : HasI w w.heap.size A1 n1 z1) (h2 : HasI w w.heap.size A2 n2 z2)
    (hc : n ≤ c) (hcm : c ≤ maxLen) (hc1 : n1 ≤ c1) (hc2 : n2 ≤ c2) (hm1 : c1 ≤ maxLen) (hm2 : c2 ≤ maxLen) :
    Calls Try.prog 4 #[.slice A n c, .slice A1 n1 c1, .slice A2 n2 c2] w (RetTrue w) := by
  by_cases q1 : n ≤ 16384
  · by_cases q2 : n1 ≤ 1024
    · by_cases q3 : n2 ≤ 1024
      · exact cuts_ok A A1 A2 n c n1 c1 n2 c2 bs z1 z2 w ha h1 h2 hc hcm q1 q2 q3 hc1 hc2
      · unfold maxLen at hcm hm1 hm2
        clear ha h1 h2
        go_enter Try.func4, Try.ntmps4
        go_wp2_with (go_at_call 9; refine (begun_any _).mono ?_; rintro e w1 ⟨rfl, b1⟩)
        go_ret
        exact ⟨rfl, b1⟩
    · unfold maxLen at hcm hm1 hm2
      clear ha h1 h2
      go_enter Try.func4, Try.ntmps4
      go_wp2_with (go_at_call 9; refine (begun_any _).mono ?_; rintro e w1 ⟨rfl, b1⟩)
      go_ret
      exact ⟨rfl, b1⟩
  · unfold maxLen at hcm hm1 hm2
    clear ha h1 h2
    go_enter Try.func4, Try.ntmps4
    go_wp2_with (go_at_call 9; refine (begun_any _).mono ?_; rintro e w1 ⟨rfl, b1⟩)
    go_ret
    exact ⟨rfl, b1⟩
end Go.Proofs.Ytlgjoeabogbknaa
