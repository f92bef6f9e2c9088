/-
  Own work. How many sectors a transaction has written; begun of layer 7; finished transactions.
-/
import Derived.Test.YthfmkdeglceppaaTl
namespace Go.Proofs.Ythfmkdeglceppaa
open Go.RowKit Go.Maps
set_option linter.unusedVariables false
set_option linter.unusedSimpArgs false

theorem frK_succ (ws : List ByteArray) (k : Nat) : frK ws (k + 1) = if (ws.getD k emp).size = 0 then frK ws k else frK ws k ++ [k] := (frM ws).wtK_succ k
theorem frK_cnt {ws : List ByteArray} {i : Nat} (hi : i < ws.length) {s : ByteArray} (hs : s.size ≠ 0) : ∀ k, (frK (ws.set i s) k).length = (frK ws k).length + if i < k ∧ (ws.getD i emp).size = 0 then 1 else 0
  | 0 => by rw [if_neg (by omega)]; rfl
  | k + 1 => by
    have ih := frK_cnt hi hs k
    rw [frK_succ, frK_succ, getD_set _ _ _ _ hi]
    by_cases e : i = k
    · subst e
      rw [if_pos rfl, if_neg hs]
      rw [if_neg (by omega)] at ih
      by_cases h0 : (ws.getD i emp).size = 0
      · rw [if_pos h0, if_pos ⟨by omega, h0⟩, List.length_append, ih]
        rfl
      · rw [if_neg h0, if_neg (fun h => h0 h.2), List.length_append, List.length_append, ih]
        rfl
    · rw [if_neg e]
      have ec : (if i < k + 1 ∧ (ws.getD i emp).size = 0 then 1 else 0) = if i < k ∧ (ws.getD i emp).size = 0 then 1 else 0 := by
        by_cases hik : i < k
        · by_cases h0 : (ws.getD i emp).size = 0
          · rw [if_pos ⟨by omega, h0⟩, if_pos ⟨hik, h0⟩]
          · rw [if_neg (fun h => h0 h.2), if_neg (fun h => h0 h.2)]
        · rw [if_neg (by omega), if_neg (by omega)]
      rw [ec]
      by_cases h0 : (ws.getD k emp).size = 0
      · rw [if_pos h0, if_pos h0, ih]
      · rw [if_neg h0, if_neg h0, List.length_append, List.length_append, ih]
        show _ + 1 = _ + 1 + _
        omega
theorem frK_rep (N k : Nat) : (frK (List.replicate N emp) k).length = 0 := by rw [frK_nil]; rfl
theorem rep_emp (N i : Nat) : ((List.replicate N emp).getD i emp).size = 0 := by
  rw [List.getD_eq_getElem?_getD, List.getElem?_replicate]
  split <;> rfl
/-- One sector written. -/
theorem one_cnt {N i : Nat} {s : ByteArray} (hi : i < N) (hs : s.size ≠ 0) : (frK ((List.replicate N emp).set i s) N).length = 1 := by
  rw [frK_cnt (by rw [List.length_replicate]; exact hi) hs, frK_rep, if_pos ⟨hi, rep_emp N i⟩]
section
variable {Z : DK} {w : World}
set_option maxRecDepth 100000 in
set_option maxHeartbeats 4000000 in
theorem begun7_any (Z : DK) (w : World) : Calls Try.prog 29 #[] w (RetTrue w) := by
  have CM : Hid (Calls Try.prog 30 #[.int .i64 64, .int .i64 16] w (MadeUp Z w 64 16)) := Lib.hid (made_any Z w w (Below.refl _ _) 64 16 (by omega) (by omega) (by omega) (by omega) (by omega))
  obtain ⟨D1, hD1⟩ : ∃ D, fullL [1] = D := ⟨_, rfl⟩
  obtain ⟨D2, hD2⟩ : ∃ D, fullL [2] = D := ⟨_, rfl⟩
  have l1 : D1.length = 512 := by rw [← hD1]; exact fullL_len _
  have l2 : D2.length = 512 := by rw [← hD2]; exact fullL_len _
  have FC1 : Hid (∀ W A n c, HasB W W.heap.size A n [1] → Calls Try.prog 24 #[.slice A n c] W (RetB W D1)) := Lib.hid (fun W A n c h => by have := full_any A n c [1] W W.heap.size h (Nat.le_refl _); rwa [hD1] at this)
  have FC2 : Hid (∀ W A n c, HasB W W.heap.size A n [2] → Calls Try.prog 24 #[.slice A n c] W (RetB W D2)) := Lib.hid (fun W A n c h => by have := full_any A n c [2] W W.heap.size h (Nat.le_refl _); rwa [hD2] at this)
  obtain ⟨E0, hE0⟩ : ∃ E, List.replicate 46 emp = E := ⟨_, rfl⟩
  have z1 : ((strB D1).size ≠ 0) := by rw [strB_size]; omega
  have z2 : ((strB D2).size ≠ 0) := by rw [strB_size]; omega
  have N1 : Hid ((frK (E0.set 3 (strB D1)) 46).length = 1) := Lib.hid (by rw [← hE0]; exact one_cnt (by omega) z1)
  have N0 : Hid ((frK E0 46).length < 40) := Lib.hid (by rw [← hE0, frK_rep]; omega)
  have L1 := Lib.hid l1
  have L2 := Lib.hid l2
  have HE := Lib.hid hE0
  clear hD1 hD2 l1 l2 hE0 z1 z2
  go_enter Try.func29, Try.ntmps29
  go_upto_region 4 with (first
    | (go_at_call 30; refine CM.out.mono ?_; rintro e w1 ⟨gd, g, gp, p, j, rfl, u1, s1, _⟩
       have U1 := Lib.hid u1
       have S1 := Lib.hid s1
       clear u1 s1)
    | (go_at_call 31; refine (begin_up U2.out S1.out (by omega)).mono ?_; rintro e w3 ⟨gu, gm2, rfl, t3, u3, hg3, hgm3, y3⟩
       have t3' : TO w3 gu g 0 46 0 (List.replicate 46 emp) (fun k => k = gm2) := t3
       rw [HE.out] at t3'
       have TU3 := Lib.hid t3'
       have U3 := Lib.hid u3
       have T3 := Lib.hid (T2.out.only y3 (fun h => h (.inr (.inl rfl))) (fun k hk h => h (.inr (.inr hk))))
       have hgu3 : gu < w3.heap.size := t3.lt
       clear t3 t3' u3 y3)
    | (go_at_call 31; refine (begin_up U1.out S1.out (by omega)).mono ?_; rintro e w2 ⟨gt, gm, rfl, t2, u2, hg2, hgm2, y2⟩
       have t2' : TO w2 gt g 0 46 0 (List.replicate 46 emp) (fun k => k = gm) := t2
       rw [HE.out] at t2'
       have hgt2 : gt < w2.heap.size := t2.lt
       have hgml2 : gm < w2.heap.size := t2.ml gm rfl
       have T2 := Lib.hid t2'
       have U2 := Lib.hid u2
       clear t2 t2' u2 y2))
  go_upto_region 6 with (first
    | (go_at_call 24; refine (FC2.out _ _ _ _ (HasB.row w5 [2] 5)).mono ?_; rintro e w6 ⟨A6, n6, c6, rfl, own6, b6⟩
       have b6' : Below w5.heap.size w5 w6 := ((Below.refl _ _).alloc (Nat.le_refl _) _).trans (b6.mono (by simp))
       have hn6 := own6.len
       rw [L2.out] at hn6
       subst hn6
       have O6 := Lib.hid own6
       have U6 := Lib.hid (U5.out.below b6')
       have T6 := Lib.hid (T5.out.below b6')
       have TU6 := Lib.hid (TU5.out.below b6')
       have hz6 : w5.heap.size ≤ w6.heap.size := b6'.size
       clear own6 b6 b6')
    | (go_at_call 24; refine (FC1.out _ _ _ _ (HasB.row w3 [1] 5)).mono ?_; rintro e w4 ⟨A4, n4, c4, rfl, own4, b4⟩
       have b4' : Below w3.heap.size w3 w4 := ((Below.refl _ _).alloc (Nat.le_refl _) _).trans (b4.mono (by simp))
       have hn4 := own4.len
       rw [L1.out] at hn4
       subst hn4
       have O4 := Lib.hid own4
       have U4 := Lib.hid (U3.out.below b4')
       have T4 := Lib.hid (T3.out.below b4')
       have TU4 := Lib.hid (TU3.out.below b4')
       have hz4 : w3.heap.size ≤ w4.heap.size := b4'.size
       clear own4 b4 b4')
    | (go_at_call_of 33 (Value.pointer (some ⟨gu, 0, none⟩)); refine (write_up U6.out S1.out (by omega) TU6.out (.inl (.inr (.inl rfl))) (fun k hk => .inl (.inr (.inr hk))) 3 (by omega) _ _ D2 O6.out.x.has L2.out O6.out.x.caps.1 (.inr N0.out) (by omega)).mono ?_; rintro e w7 ⟨rfl, M7, t7, u7, hM7, y7⟩
       have TU7 := Lib.hid t7
       have U7 := Lib.hid u7
       have HM7 := Lib.hid hM7
       have T7 := Lib.hid (T6.out.only y7 (by omega) (fun k hk hh => by rcases HM5.out k hk with h' | h' <;> omega))
       clear t7 u7 hM7 y7)
    | (go_at_call 33; refine (write_up U4.out S1.out (by omega) T4.out (.inl (.inr (.inl rfl))) (fun k hk => .inl (.inr (.inr hk))) 3 (by omega) _ _ D1 O4.out.x.has L1.out O4.out.x.caps.1 (.inr N0.out) (by omega)).mono ?_; rintro e w5 ⟨rfl, M5, t5, u5, hM5, y5⟩
       have T5 := Lib.hid t5
       have U5 := Lib.hid u5
       have HM5 := Lib.hid hM5
       have TU5 := Lib.hid (TU4.out.only y5 (by omega) (fun k hk hh => by omega))
       have hz5 : w4.heap.size ≤ w5.heap.size := y5.size
       clear t5 u5 hM5 y5))
  have CC := Lib.hid (commit_tx U7.out S1.out (by omega) T7.out (.inl (.inl (.inl (.inr (.inl rfl))))) (by rw [N1.out]; omega) (by rw [N1.out]; omega) (by omega))
  go_wp2_with (first
    | (go_at_call 34; refine (tcommit_no (TU9.out)).mono ?_; rintro e w10 ⟨rfl, rfl⟩)
    | (go_at_call 34; refine CO8.out.mono ?_; rintro e w9 ⟨rfl, z9, u9, _⟩
       have TU9 : Hid (TN w9 (.pointer (some ⟨gu, 0, none⟩))) := Lib.hid (.inr ⟨gu, rfl, z9⟩)
       have U9 := Lib.hid u9
       clear z9 u9)
    | (go_at_call 34; refine CC.out.mono ?_; rintro e w8 ⟨rfl, z8, ⟨p8, j8, T8, v8, u8, s8, hT8, _⟩, y8⟩
       have ht8 : T8 = 2 := hT8 (fun hh => by have := N1.out; rw [hh] at this; cases this)
       subst ht8
       obtain ⟨b1, b2, b3, b4, b5, b6, b7, b8, b9, b10, b11, b12⟩ := s8.homes
       have CO8 := Lib.hid (tcommit_old (TU7.out.only y8 (fun hh => hh.elim (fun h => h (.inl (.inl (.inr (.inl rfl))))) (fun h => by omega)) (fun k hk hh => hh.elim (fun h => h (.inr hk)) (fun h => by rcases HM7.out k hk with h' | h' <;> omega))) u8 (.inl (.inl (.inr (.inl rfl)))) (by rw [b3]; omega) (by rw [b3]; omega))
       clear z8 u8 s8 hT8 y8 b1 b2 b3 b4 b5 b6 b7 b8 b9 b10 b11 b12))
  go_ret
  exact ⟨rfl, U9.out.up.bel⟩
end
end Go.Proofs.Ythfmkdeglceppaa
