/-
  The law ShaKept walked: what was written may be written over behind it.
-/
import Derived.Test.YtlgjoeabogbknaaNone
import Derived.Test.YtlgjoeabogbknaaSpoil
namespace Go.Proofs.Ytlgjoeabogbknaa
open Go.RowKit
set_option linter.unusedVariables false
set_option linter.unusedSimpArgs false

/-- Of two slices that a call lays side by side. -/
theorem has_two {W : World} {A B : Option Addr} {n m c d : Nat} {a b : List UInt8} (ha : HasB W W.heap.size A n a) (hb : HasB W W.heap.size B m b) (hc : n ≤ c) (hd : m ≤ d) :
    HasBB (W.alloc (.cells #[.slice A n c, .slice B m d] 29)) (W.alloc (.cells #[.slice A n c, .slice B m d] 29)).heap.size (some ⟨W.heap.size, 0, none⟩) 2 [a, b] := by
  refine ⟨rfl, fun _ => ⟨W.heap.size, 0, rfl, by simp, fun i l hi => ?_⟩⟩
  have hrow := heap_alloc_new W (.cells #[.slice A n c, .slice B m d] 29)
  rcases i with _ | _ | i
  · simp only [List.getElem?_cons_zero, Option.some.injEq] at hi
    subst hi
    exact ⟨A, n, c, by rw [cell_of_row _ _ _ _ _ _ hrow]; rfl, hc, (ha.alloc (Nat.le_refl _) _).more (by simp)⟩
  · simp only [List.getElem?_cons_succ, List.getElem?_cons_zero, Option.some.injEq] at hi
    subst hi
    exact ⟨B, m, d, by rw [cell_of_row _ _ _ _ _ _ hrow]; rfl, hd, (hb.alloc (Nat.le_refl _) _).more (by simp)⟩
  · simp at hi
theorem of_two {W : World} {A B : Option Addr} {n m c d : Nat} {a b : List UInt8} (ha : HasB W W.heap.size A n a) (hb : HasB W W.heap.size B m b) (hc : n ≤ c) (hd : m ≤ d) (hn : n ≤ 4096) (hm : m ≤ 4096) :
    Calls Try.prog 15 #[.slice (some ⟨W.heap.size, 0, none⟩) 2 2] (W.alloc (.cells #[.slice A n c, .slice B m d] 29)) (RetID (W.alloc (.cells #[.slice A n c, .slice B m d] 29)) (sumS (a ++ b))) := by
  have := of_any _ 2 2 [a, b] _ (has_two ha hb hc hd) (by omega) (by have := ha.len; have := hb.len; simp; omega)
  simpa using this
/-- A twin is a row of the call's own. -/
theorem TwinB.own {w : World} {base : Nat} {A : Option Addr} {l : List UInt8} (h : TwinB w base A l) : OwnB w base (.slice A l.length (l.length + 3)) l := by
  obtain ⟨g, rfl, h⟩ := h
  rcases h.form with ⟨e, _⟩ | ⟨g', c, cur, e, hb, hlt, hg, hn, hc, hs, ht⟩
  · cases e
  · simp only [Value.slice.injEq, Option.some.injEq, Addr.mk.injEq, and_true] at e
    obtain ⟨rfl, -, rfl⟩ := e
    refine ⟨by simp [cellsB], .inr ⟨g, l.length + 3, cur, rfl, hb, hg, by omega, hc, by simpa using hs, ?_⟩⟩
    rw [List.length_append] at ht
    have h2 := congrArg (List.take l.length) ht
    rw [List.take_take, Nat.min_eq_left (by omega), cellsB_append, List.take_append_of_le_length (by rw [cellsB_length]; exact Nat.le_refl _)] at h2
    rw [List.take_of_length_le (l := cellsB l) (by rw [cellsB_length]; exact Nat.le_refl _)] at h2
    simpa using h2

set_option maxRecDepth 100000 in
set_option maxHeartbeats 400000 in
theorem kept_law (A B : Option Addr) (a b : List UInt8) (n c m d : Nat) (w : World) (ha : HasB w w.heap.size A n a) (hb : HasB w w.heap.size B m b) (hc : n ≤ c) (hd : m ≤ d) (hcm : c ≤ maxLen) (hdm : d ≤ maxLen) :
    Calls Try.prog 6 #[.slice A n c, .slice B m d] w (RetTrue w) := by
  unfold maxLen at hcm hdm
  have HA := Lib.hid ha
  have HB := Lib.hid hb
  clear ha hb
  by_cases h1 : n ≤ 4096
  · by_cases h2 : m ≤ 4096
    · go_enter Try.func6, Try.ntmps6
      go_wp2_with (first
        | (go_at_call 9; refine (begun_any _).mono ?_; rintro e w1 ⟨rfl, b1⟩
           have B1 := Lib.hid b1
           clear b1)
        | (go_at_call 12; refine (new_any _).mono ?_; rintro e w2 ⟨g, rfl, hg, hd2, b2⟩
           have hgw : w.heap.size ≤ g := Nat.le_trans B1.out.size hg
           have HGW := Lib.hid hgw
           have HD2 := Lib.hid hd2
           have b2' := B1.out.trans (b2.mono B1.out.size)
           have B2 := Lib.hid b2'
           clear hg hd2 b2 b2' hgw)
        | (go_at_call 21; refine (twin_any A a n c _ (HA.out.on B2.out) (by omega)).mono ?_; rintro e w3 ⟨A3, rfl, ht, b3⟩
           have hnl := HA.out.len
           have hown := ht.own
           rw [← hnl] at hown
           have hd3 := HD2.out.below b3 HD2.out.lt
           have hsrc : Src w3 g A3 n a := Src.of_has (ht.has hnl) (Nat.le_refl _) (by
             intro k o e
             obtain ⟨g', e', ho⟩ := ht
             rw [e'] at e
             injection e with e
             injection e with e1 e2
             have := ho.lt g' rfl
             have := HD2.out.lt
             omega)
           have hw4 := write_any g n (n + 3) [] a A3 w3 hd3 hsrc (by omega) (by simp; omega)
           have HW4 := Lib.hid hw4
           have HOWN := Lib.hid hown
           have b3' := B2.out.trans (b3.mono B2.out.size)
           have B3 := Lib.hid b3'
           have hgk : ∀ k, (Value.slice A3 n (n + 3)).ownBlock = some k → g < k := by
             intro k hk
             have h5 := hown.lt k hk
             have h6 := HD2.out.lt
             omega
           have HGK := Lib.hid hgk
           clear ht b3 hnl hown hd3 hsrc hw4 b3' hgk)
        | (go_at_call_of 13 A3; refine HW4.out.mono ?_; rintro e w4 ⟨rfl, hd4, g4⟩
           have b4 := below_row B3.out g4 HGW.out B3.out.size
           have o4 : OwnB w4 w2.heap.size (.slice A3 n (n + 3)) a := HOWN.out.kept g4 (by
             rcases hq : (Value.slice A3 n (n + 3)).ownBlock with _ | k
             · exact .inl rfl
             · refine .inr ?_
               intro e
               injection e with e
               have := HGK.out k hq
               omega)
           have B4 := Lib.hid b4
           have O4 := Lib.hid o4
           have HD4 := Lib.hid hd4
           clear b4 o4 hd4 g4)
        | (go_at_call 22; refine (spoil_row A3 a n (n + 3) w2.heap.size _ O4.out).mono ?_; rintro e w5 ⟨rfl, g5⟩
           have hd5 : HashD w5 g a := HD4.out.grown g5 (by
             intro e
             have := HGK.out g e.symm
             omega)
           have b5 : Below w.heap.size w w5 := B4.out.trans ⟨g5.os, g5.tape, g5.output, g5.size, fun k hk => g5.block k (Nat.lt_of_lt_of_le hk B4.out.size) (by
             intro e
             have h5 := HGK.out k e.symm
             have h6 := HGW.out
             omega)⟩
           have hs5 : Src w5 g B m b := Src.of_below (HB.out.below b5) HGW.out hd5.lt
           have hw6 := write_any g m d a b B w5 hd5 hs5 hd (by have := HA.out.len; have := HB.out.len; omega)
           have HW6 := Lib.hid hw6
           have B5 := Lib.hid b5
           clear g5 hd5 b5 hs5 hw6)
        | (go_at_call 13; refine HW6.out.mono ?_; rintro e w6 ⟨rfl, hd6, g6⟩
           have b6 := below_row B5.out g6 HGW.out B5.out.size
           have hs6 := sum_any g (a ++ b) w6 hd6 (by have := HA.out.len; have := HB.out.len; simp; omega)
           have HS6 := Lib.hid hs6
           have B6 := Lib.hid b6
           clear hd6 g6 b6 hs6)
        | (go_at_call 16; refine HS6.out.mono ?_; rintro e w7 ⟨rfl, b7⟩
           have b7' := B6.out.trans (b7.mono B6.out.size)
           have B7 := Lib.hid b7'
           have ho := of_two (HA.out.on b7') (HB.out.on b7') hc hd h1 h2
           have HO := Lib.hid ho
           clear b7 b7' ho)
        | (go_at_call 15; refine HO.out.mono ?_; rintro e w8 ⟨rfl, b8⟩
           have b8' := (B7.out.alloc B7.out.size (.cells #[.slice A n c, .slice B m d] 29)).trans (b8.mono (by have := B7.out.size; simp; omega))
           have B8 := Lib.hid b8'
           clear b8 b8')
        | (refine wpList_eqlG rfl 31 31 (.tmp 29) (.tmp 33) rfl (.agg (cellsB (sumS (a ++ b))).toArray) (.agg (cellsB (sumS (a ++ b))).toArray) true rfl rfl (guard_id _ _ _ _ _) (eql_id_same _ (sum_len _) _) ?_))
      go_ret
      exact ⟨rfl, B8.out⟩
    · go_enter Try.func6, Try.ntmps6
      go_wp2_with (go_at_call 9; refine (begun_any _).mono ?_; rintro e w1 ⟨rfl, b1⟩)
      go_ret
      exact ⟨rfl, b1⟩
  · go_enter Try.func6, Try.ntmps6
    go_wp2_with (go_at_call 9; refine (begun_any _).mono ?_; rintro e w1 ⟨rfl, b1⟩)
    go_ret
    exact ⟨rfl, b1⟩
end Go.Proofs.Ytlgjoeabogbknaa
