/-
  Own work. DiskSizes walked over a disk by its contracts.
-/
import Derived.Test.YtpnmcdpekfibjaaDb
import Derived.Deep.DeepCutAuto
import Derived.Lib.SmallJoins
namespace Go.Proofs.Ytpnmcdpekfibjaa
open Go.RowKit
set_option linter.unusedVariables false
set_option linter.unusedSimpArgs false

theorem zero_full : strB (fullL []) = zeroS := by rfl
theorem new_wtK (n k : Nat) : (newM n).wtK k = [] := by
  induction k with
  | zero => rfl
  | succ k ih =>
    rw [RM.wtK_succ, if_pos, ih]
    show ((List.replicate n emp).getD k emp).size = 0
    rw [List.getD_eq_getElem?_getD]
    cases h : (List.replicate n emp)[k]? with
    | none => rfl
    | some s =>
      rw [List.eq_of_mem_replicate (List.mem_of_getElem? h)]
      rfl
theorem new_read (n i : Nat) (h : i < n) : (newM n).readE n i = 0 ∧ (newM n).readS n i = zeroS := by
  have he : (newM n).readE n i = 0 := by unfold RM.readE; rw [if_neg (by show ¬ false = true; decide), if_neg (by omega)]
  refine ⟨he, ?_⟩
  have h1 : (newM n).wait.getD i ⟨#[]⟩ = emp := by
    show (List.replicate n emp).getD i emp = emp
    rw [List.getD_eq_getElem?_getD, List.getElem?_replicate, if_pos h]; rfl
  have h2 : (newM n).last.getD i ⟨#[]⟩ = zeroS := by
    show (List.replicate n zeroS).getD i emp = zeroS
    rw [List.getD_eq_getElem?_getD, List.getElem?_replicate, if_pos h]; rfl
  unfold RM.readS RM.at_
  rw [if_pos he, show ((i : Int)).toNat = i from rfl, h1, h2, if_pos (by rfl)]
theorem new_readNo (n : Nat) : (newM n).readE n (n : Int) = 1 := by unfold RM.readE; rw [if_neg (by show ¬ false = true; decide), if_pos (.inr (Int.le_refl _))]

set_option maxRecDepth 100000 in
set_option maxHeartbeats 2000000 in
theorem sizes_law (Z : DK) (z : Int) (w : World) (hz : -9223372036854775808 ≤ z ∧ z ≤ 9223372036854775807) :
    Calls Try.prog 4 #[.int .i64 z] w (RetTrue w) := by
  by_cases h1 : z < 32
  · have CN := Lib.hid (fun W => Z.new_no W z (.inl h1) hz)
    have hz1 := hz.1
    clear hz
    go_enter Try.func4, Try.ntmps4
    go_wp2_with (first
      | (go_at_call 9; refine (begun5_any Z _).mono ?_; rintro e w1 ⟨rfl, b1⟩
         have B1 := Lib.hid b1
         clear b1)
      | (go_at_call 11; refine (CN.out _).mono ?_; rintro e w3 ⟨rfl, b3⟩
         have B3 := Lib.hid (B1.out.trans (b3.mono B1.out.size))
         clear b3))
    go_ret
    exact ⟨rfl, B3.out⟩
  · by_cases h2 : 4096 < z
    · have CN := Lib.hid (fun W => Z.new_no W z (.inr h2) hz)
      have hz1 := hz.2
      clear hz
      go_enter Try.func4, Try.ntmps4
      go_wp2_with (first
        | (go_at_call 9; refine (begun5_any Z _).mono ?_; rintro e w1 ⟨rfl, b1⟩
           have B1 := Lib.hid b1
           clear b1)
        | (go_at_call 11; refine (CN.out _).mono ?_; rintro e w3 ⟨rfl, b3⟩
           have B3 := Lib.hid (B1.out.trans (b3.mono B1.out.size))
           clear b3))
      go_ret
      exact ⟨rfl, B3.out⟩
    · obtain ⟨N, rfl⟩ : ∃ N : Nat, z = (N : Int) := ⟨z.toNat, by omega⟩
      have N1 : 32 ≤ N := by omega
      have N2 : N ≤ 4096 := by omega
      obtain ⟨P, hP⟩ : ∃ P, N - 1 = P := ⟨_, rfl⟩
      have hs : (N : Int) - 1 = (P : Int) := by omega
      have hPN : P < N := by omega
      obtain ⟨X, hX⟩ : ∃ X, zeroS = X := ⟨_, rfl⟩
      have ok := newM_ok N N1 N2
      have r1 := new_read N P hPN
      rw [hX] at r1
      have c1 : ∀ W g S, Z.D W g S N (newM N) → Calls Try.prog 18 #[.pointer (some ⟨g, 0, none⟩), .int .i64 (P : Int)] W (RetXE W (lst X) 0) := fun W g S d => by
        have := Z.read_any (P : Int) d ok (by omega)
        rwa [r1.1, r1.2] at this
      have c2 : ∀ W g S, Z.D W g S N (newM N) → Calls Try.prog 18 #[.pointer (some ⟨g, 0, none⟩), .int .i64 (N : Int)] W (RetXE W (lst ((newM N).readS N N)) 1) := fun W g S d => by
        have := Z.read_any (N : Int) d ok (by omega)
        rwa [new_readNo] at this
      have cl : ∀ W g S, Z.D W g S N (newM N) → Calls Try.prog 19 #[.pointer (some ⟨g, 0, none⟩)] W fun e w' => e = .returned (.int .i64 (N : Int)) ∧ Below W.heap.size W w' := fun W g S d => Z.len_any d ok
      have cd : ∀ W g S, Z.D W g S N (newM N) → Calls Try.prog 21 #[.pointer (some ⟨g, 0, none⟩)] W fun e w' => e = .returned (.bool false) ∧ Below W.heap.size W w' := fun W g S d => Z.dead_any d ok
      have ct : ∀ W g S, Z.D W g S N (newM N) → Calls Try.prog 22 #[.pointer (some ⟨g, 0, none⟩)] W (RetI W []) := fun W g S d => by
        have := Z.waiting_any d ok
        rwa [new_wtK] at this
      have R1 := Lib.hid c1
      have R2 := Lib.hid c2
      have RL := Lib.hid cl
      have RD := Lib.hid cd
      have RT := Lib.hid ct
      have HX : Hid (strB (fullL []) = X) := Lib.hid (by rw [zero_full, hX])
      clear hX r1 c1 c2 cl cd ct hP ok hz
      go_enter Try.func4, Try.ntmps4
      go_upto_region 8 with (first
        | (go_at_call 9; refine (begun5_any Z _).mono ?_; rintro e w1 ⟨rfl, b1⟩
           have B1 := Lib.hid b1
           clear b1)
        | (go_at_call 11; refine (Z.new_any _ N N1 N2).mono ?_; rintro e w3 ⟨g, S1, rfl, d1, s1, b3⟩
           have D3 : Hid (OwD Z w w3 g S1 N (newM N)) := Lib.hid ⟨d1, fun k hk => Nat.le_trans B1.out.size (s1 k hk), B1.out.trans (b3.mono B1.out.size)⟩
           clear d1 s1 b3)
        | (go_at_call 18; refine (R3.out.out _ _ _ D4.out.d).mono ?_; rintro e w5 ⟨A5, n5, c5, rfl, own5, b5⟩
           have D5 := Lib.hid (D4.out.below b5)
           have O5 := Lib.hid (O4.out.below b5)
           clear own5 b5)
        | (go_at_call 18; refine (R1.out _ _ _ D3.out.d).mono ?_; rintro e w4 ⟨A4, n4, c4, rfl, own4, b4⟩
           have D4 := Lib.hid (D3.out.below b4)
           have O4 := Lib.hid own4
           have R3 := Lib.hid R2
           clear own4 b4))
      have HC : Hid (∀ W, Below w5.heap.size w5 W → (convert 29 9 (.slice A4 n4 c4)).run Try.prog W = .ok (.string X) W) := Lib.hid (fun W hW => by
        have := run_conv (P := Try.prog) Try.underlying29 Try.underlying5 Try.underlying9 _ A4 n4 c4 _ (O5.out.below hW).has
        rwa [show (⟨(lst X).toArray⟩ : ByteArray) = X from strB_lst X] at this)
      have CL := Lib.hid (fun W (hW : Below w5.heap.size w5 W) => RL.out W _ _ (D5.out.below hW).d)
      have CD := Lib.hid (fun W (hW : Below w5.heap.size w5 W) => RD.out W _ _ (D5.out.below hW).d)
      have CT := Lib.hid (fun W (hW : Below w5.heap.size w5 W) => RT.out W _ _ (D5.out.below hW).d)
      refine wp_region_held_drew (S := fun W => Below w5.heap.size w5 W) (by kernel_rfl) (Below.refl _ _).drew (fun hHeld => ?_)
      refine wpAnyH_take (i := 0) (v := ?v0) (by simp only [List.getElem?_toArray, List.getElem?_cons_succ, List.getElem?_cons_zero]; rfl) (by kernel_rfl) (by kernel_rfl) (by kernel_rfl) (by exact fun _ _ _ h => h) (Or.inl ⟨by rfl, ?h0⟩) (by assumption) ?_
      case h0 => (intro W hSw; (try dsimp only at hSw); go_simp; try with_reducible rfl)
      try simp only [Act.put, List.setIfInBounds_toArray, List.set_cons_zero, List.set_cons_succ]
      refine wpAnyH_take (i := 2) (v := ?v2) (by simp only [List.getElem?_toArray, List.getElem?_cons_succ, List.getElem?_cons_zero]; rfl) (by kernel_rfl) (by kernel_rfl) (by kernel_rfl) (by exact fun _ _ _ h => h) (Or.inl ⟨by rfl, ?h2⟩) (by assumption) ?_
      case h2 => (intro W hSw; (try dsimp only at hSw); go_simp; try with_reducible rfl)
      try simp only [Act.put, List.setIfInBounds_toArray, List.set_cons_zero, List.set_cons_succ]
      refine wpAnyH_ready (rs := [1]) (by kernel_rfl) (by simp) ?_
      refine AllReadyH.cons (by simp only [List.getElem?_toArray, List.getElem?_cons_succ, List.getElem?_cons_zero]; rfl) (fun K hK => ?_) AllReadyH.nil
      go_simp
      refine (CL.out _ hHeld).mono ?_
      rintro e v1 ⟨rfl, b1⟩
      have hS1 : Below w5.heap.size w5 v1 := Below.trans hHeld (b1.mono hHeld.size)
      refine hK _ _ hS1 (fun hH1 => ?_)
      clear hK K
      try simp only [Act.put, List.setIfInBounds_toArray, List.set_cons_zero, List.set_cons_succ]
      refine wpAnyH_take (i := 3) (v := ?v3) (by simp only [List.getElem?_toArray, List.getElem?_cons_succ, List.getElem?_cons_zero]; rfl) (by kernel_rfl) (by kernel_rfl) (by kernel_rfl) (by exact fun _ _ _ h => h) (Or.inl ⟨by rfl, ?h3⟩) (by assumption) ?_
      case h3 => (intro W hSw; (try dsimp only at hSw); go_simp; try with_reducible rfl)
      try simp only [Act.put, List.setIfInBounds_toArray, List.set_cons_zero, List.set_cons_succ]
      refine wpAnyH_take (i := 4) (v := ?v4) (by simp only [List.getElem?_toArray, List.getElem?_cons_succ, List.getElem?_cons_zero]; rfl) (by kernel_rfl) (by kernel_rfl) (by kernel_rfl) (by exact fun _ _ _ h => h) (Or.inl ⟨by rfl, ?h4⟩) (by assumption) ?_
      case h4 => (intro W hSw; (try dsimp only at hSw); go_simp; try with_reducible rfl)
      try simp only [Act.put, List.setIfInBounds_toArray, List.set_cons_zero, List.set_cons_succ]
      refine wpAnyH_take (i := 5) (v := ?v5) (by simp only [List.getElem?_toArray, List.getElem?_cons_succ, List.getElem?_cons_zero]; rfl) (by kernel_rfl) (by kernel_rfl) (by kernel_rfl) (by exact fun _ _ _ h => h) (Or.inl ⟨by rfl, ?h5⟩) (by assumption) ?_
      case h5 => (intro W hSw; (try dsimp only at hSw); go_simp; try with_reducible rfl)
      try simp only [Act.put, List.setIfInBounds_toArray, List.set_cons_zero, List.set_cons_succ]
      refine wpAnyH_take (i := 6) (v := ?v6) (by simp only [List.getElem?_toArray, List.getElem?_cons_succ, List.getElem?_cons_zero]; rfl) (by kernel_rfl) (by kernel_rfl) (by kernel_rfl) (by exact fun _ _ _ h => h) (Or.inl ⟨by rfl, ?h6⟩) (by assumption) ?_
      case h6 => (intro W hSw; (try dsimp only at hSw); go_simp; try with_reducible rfl)
      try simp only [Act.put, List.setIfInBounds_toArray, List.set_cons_zero, List.set_cons_succ]
      refine wpAnyH_take (i := 7) (v := ?v7) (by simp only [List.getElem?_toArray, List.getElem?_cons_succ, List.getElem?_cons_zero]; rfl) (by kernel_rfl) (by kernel_rfl) (by kernel_rfl) (by exact fun _ _ _ h => h) (Or.inl ⟨by rfl, ?h7⟩) (by assumption) ?_
      case h7 => (intro W hSw; (try dsimp only at hSw); go_simp; try with_reducible rfl)
      try simp only [Act.put, List.setIfInBounds_toArray, List.set_cons_zero, List.set_cons_succ]
      refine wpAnyH_take (i := 8) (v := ?v8) (by simp only [List.getElem?_toArray, List.getElem?_cons_succ, List.getElem?_cons_zero]; rfl) (by kernel_rfl) (by kernel_rfl) (by kernel_rfl) (by exact fun _ _ _ h => h) (Or.inl ⟨by rfl, ?h8⟩) (by assumption) ?_
      case h8 => (intro W hSw; (try dsimp only at hSw); go_simp; try with_reducible rfl)
      try simp only [Act.put, List.setIfInBounds_toArray, List.set_cons_zero, List.set_cons_succ]
      refine wpAnyH_take (i := 9) (v := ?v9) (by simp only [List.getElem?_toArray, List.getElem?_cons_succ, List.getElem?_cons_zero]; rfl) (by kernel_rfl) (by kernel_rfl) (by kernel_rfl) (by exact fun _ _ _ h => h) (Or.inl ⟨by rfl, ?h9⟩) (by assumption) ?_
      case h9 => (intro W hSw; (try dsimp only at hSw); go_simp; try with_reducible rfl)
      try simp only [Act.put, List.setIfInBounds_toArray, List.set_cons_zero, List.set_cons_succ]
      refine wpAnyH_take (i := 10) (by simp only [List.getElem?_toArray, List.getElem?_cons_succ, List.getElem?_cons_zero]; rfl) (by kernel_rfl) (by kernel_rfl) (by kernel_rfl) (by exact fun _ _ _ h => h) (yieldsIf_conv (by rfl) 29 9 (.tmp 42) rfl _ (.string X) rfl (fun W hS => HC.out W hS)) (by assumption) ?_
      try simp only [Act.put, List.setIfInBounds_toArray, List.set_cons_zero, List.set_cons_succ]
      refine wpAnyH_ready (rs := [11]) (by kernel_rfl) (by simp) ?_
      refine AllReadyH.cons (by simp only [List.getElem?_toArray, List.getElem?_cons_succ, List.getElem?_cons_zero]; rfl) (fun K hK => ?_) AllReadyH.nil
      go_simp
      refine (full_any none 0 0 [] _ 0 (HasB.nil _ _ _) (Nat.zero_le _)).mono ?_
      rintro e v11 ⟨A11, n11, c11, rfl, own11, b11⟩
      have hS11 : Below w5.heap.size w5 v11 := Below.trans hS1 (b11.mono hS1.size)
      have hcv := run_conv (P := Try.prog) Try.underlying29 Try.underlying5 Try.underlying9 _ _ _ c11 _ own11.has
      rw [show (⟨(fullL []).toArray⟩ : ByteArray) = X from HX.out] at hcv
      refine hK _ _ hS11 (fun hH11 => ?_)
      clear hK K
      try simp only [Act.put, List.setIfInBounds_toArray, List.set_cons_zero, List.set_cons_succ]
      refine wpAnyH_ready (rs := [12]) (by kernel_rfl) (by simp) ?_
      refine AllReadyH.cons (by simp only [List.getElem?_toArray, List.getElem?_cons_succ, List.getElem?_cons_zero]; rfl) (fun K hK => ?_) AllReadyH.nil
      refine step_convG (by rfl) 29 9 (.tmp 44) rfl _ _ rfl hcv ?_
      have hS12 := hS11
      refine hK _ _ hS12 (fun hH12 => ?_)
      clear hK K
      try simp only [Act.put, List.setIfInBounds_toArray, List.set_cons_zero, List.set_cons_succ]
      refine wpAnyH_take (i := 13) (v := ?v13) (by simp only [List.getElem?_toArray, List.getElem?_cons_succ, List.getElem?_cons_zero]; rfl) (by kernel_rfl) (by kernel_rfl) (by kernel_rfl) (by exact fun _ _ _ h => h) (Or.inl ⟨by rfl, ?h13⟩) (by assumption) ?_
      case h13 => (intro W hSw; (try dsimp only at hSw); go_simp; try with_reducible rfl)
      try simp only [Act.put, List.setIfInBounds_toArray, List.set_cons_zero, List.set_cons_succ]
      refine wpAnyH_take (i := 14) (v := ?v14) (by simp only [List.getElem?_toArray, List.getElem?_cons_succ, List.getElem?_cons_zero]; rfl) (by kernel_rfl) (by kernel_rfl) (by kernel_rfl) (by exact fun _ _ _ h => h) (Or.inl ⟨by rfl, ?h14⟩) (by assumption) ?_
      case h14 => (intro W hSw; (try dsimp only at hSw); go_simp; try with_reducible rfl)
      try simp only [Act.put, List.setIfInBounds_toArray, List.set_cons_zero, List.set_cons_succ]
      refine wpAnyH_take (i := 15) (v := ?v15) (by simp only [List.getElem?_toArray, List.getElem?_cons_succ, List.getElem?_cons_zero]; rfl) (by kernel_rfl) (by kernel_rfl) (by kernel_rfl) (by exact fun _ _ _ h => h) (Or.inl ⟨by rfl, ?h15⟩) (by assumption) ?_
      case h15 => (intro W hSw; (try dsimp only at hSw); go_simp; try with_reducible rfl)
      try simp only [Act.put, List.setIfInBounds_toArray, List.set_cons_zero, List.set_cons_succ]
      refine wpAnyH_take (i := 16) (v := ?v16) (by simp only [List.getElem?_toArray, List.getElem?_cons_succ, List.getElem?_cons_zero]; rfl) (by kernel_rfl) (by kernel_rfl) (by kernel_rfl) (by exact fun _ _ _ h => h) (Or.inl ⟨by rfl, ?h16⟩) (by assumption) ?_
      case h16 => (intro W hSw; (try dsimp only at hSw); go_simp; try with_reducible rfl)
      try simp only [Act.put, List.setIfInBounds_toArray, List.set_cons_zero, List.set_cons_succ]
      refine wpAnyH_take (i := 17) (v := ?v17) (by simp only [List.getElem?_toArray, List.getElem?_cons_succ, List.getElem?_cons_zero]; rfl) (by kernel_rfl) (by kernel_rfl) (by kernel_rfl) (by exact fun _ _ _ h => h) (Or.inl ⟨by rfl, ?h17⟩) (by assumption) ?_
      case h17 => (intro W hSw; (try dsimp only at hSw); go_simp; try with_reducible rfl)
      try simp only [Act.put, List.setIfInBounds_toArray, List.set_cons_zero, List.set_cons_succ]
      refine wpAnyH_take (i := 18) (v := ?v18) (by simp only [List.getElem?_toArray, List.getElem?_cons_succ, List.getElem?_cons_zero]; rfl) (by kernel_rfl) (by kernel_rfl) (by kernel_rfl) (by exact fun _ _ _ h => h) (Or.inl ⟨by rfl, ?h18⟩) (by assumption) ?_
      case h18 => (intro W hSw; (try dsimp only at hSw); go_simp; try with_reducible rfl)
      try simp only [Act.put, List.setIfInBounds_toArray, List.set_cons_zero, List.set_cons_succ]
      refine wpAnyH_take (i := 19) (v := ?v19) (by simp only [List.getElem?_toArray, List.getElem?_cons_succ, List.getElem?_cons_zero]; rfl) (by kernel_rfl) (by kernel_rfl) (by kernel_rfl) (by exact fun _ _ _ h => h) (Or.inl ⟨by rfl, ?h19⟩) (by assumption) ?_
      case h19 => (intro W hSw; (try dsimp only at hSw); go_simp; try with_reducible rfl)
      try simp only [Act.put, List.setIfInBounds_toArray, List.set_cons_zero, List.set_cons_succ]
      refine wpAnyH_take (i := 20) (v := ?v20) (by simp only [List.getElem?_toArray, List.getElem?_cons_succ, List.getElem?_cons_zero]; rfl) (by kernel_rfl) (by kernel_rfl) (by kernel_rfl) (by exact fun _ _ _ h => h) (Or.inl ⟨by rfl, ?h20⟩) (by assumption) ?_
      case h20 => (intro W hSw; (try dsimp only at hSw); go_simp; try with_reducible rfl)
      try simp only [Act.put, List.setIfInBounds_toArray, List.set_cons_zero, List.set_cons_succ]
      refine wpAnyH_ready (rs := [21]) (by kernel_rfl) (by simp) ?_
      refine AllReadyH.cons (by simp only [List.getElem?_toArray, List.getElem?_cons_succ, List.getElem?_cons_zero]; rfl) (fun K hK => ?_) AllReadyH.nil
      go_simp
      refine (CD.out _ hS12).mono ?_
      rintro e v21 ⟨rfl, b21⟩
      have hS21 : Below w5.heap.size w5 v21 := Below.trans hS12 (b21.mono hS12.size)
      refine hK _ _ hS21 (fun hH21 => ?_)
      clear hK K
      try simp only [Act.put, List.setIfInBounds_toArray, List.set_cons_zero, List.set_cons_succ]
      refine wpAnyH_take (i := 22) (v := ?v22) (by simp only [List.getElem?_toArray, List.getElem?_cons_succ, List.getElem?_cons_zero]; rfl) (by kernel_rfl) (by kernel_rfl) (by kernel_rfl) (by exact fun _ _ _ h => h) (Or.inl ⟨by rfl, ?h22⟩) (by assumption) ?_
      case h22 => (intro W hSw; (try dsimp only at hSw); go_simp; try with_reducible rfl)
      try simp only [Act.put, List.setIfInBounds_toArray, List.set_cons_zero, List.set_cons_succ]
      refine wpAnyH_take (i := 23) (v := ?v23) (by simp only [List.getElem?_toArray, List.getElem?_cons_succ, List.getElem?_cons_zero]; rfl) (by kernel_rfl) (by kernel_rfl) (by kernel_rfl) (by exact fun _ _ _ h => h) (Or.inl ⟨by rfl, ?h23⟩) (by assumption) ?_
      case h23 => (intro W hSw; (try dsimp only at hSw); go_simp; try with_reducible rfl)
      try simp only [Act.put, List.setIfInBounds_toArray, List.set_cons_zero, List.set_cons_succ]
      refine wpAnyH_take (i := 24) (v := ?v24) (by simp only [List.getElem?_toArray, List.getElem?_cons_succ, List.getElem?_cons_zero]; rfl) (by kernel_rfl) (by kernel_rfl) (by kernel_rfl) (by exact fun _ _ _ h => h) (Or.inl ⟨by rfl, ?h24⟩) (by assumption) ?_
      case h24 => (intro W hSw; (try dsimp only at hSw); go_simp; try with_reducible rfl)
      try simp only [Act.put, List.setIfInBounds_toArray, List.set_cons_zero, List.set_cons_succ]
      refine wpAnyH_take (i := 25) (v := ?v25) (by simp only [List.getElem?_toArray, List.getElem?_cons_succ, List.getElem?_cons_zero]; rfl) (by kernel_rfl) (by kernel_rfl) (by kernel_rfl) (by exact fun _ _ _ h => h) (Or.inl ⟨by rfl, ?h25⟩) (by assumption) ?_
      case h25 => (intro W hSw; (try dsimp only at hSw); go_simp; try with_reducible rfl)
      try simp only [Act.put, List.setIfInBounds_toArray, List.set_cons_zero, List.set_cons_succ]
      refine wpAnyH_ready (rs := [26]) (by kernel_rfl) (by simp) ?_
      refine AllReadyH.cons (by simp only [List.getElem?_toArray, List.getElem?_cons_succ, List.getElem?_cons_zero]; rfl) (fun K hK => ?_) AllReadyH.nil
      go_simp
      refine (CT.out _ hS21).mono ?_
      rintro e v26 ⟨A26, n26, c26, rfl, own26, b26⟩
      have hn26 : n26 = 0 := own26.len
      subst hn26
      have hS26 : Below w5.heap.size w5 v26 := Below.trans hS21 (b26.mono hS21.size)
      refine hK _ _ hS26 (fun hH26 => ?_)
      clear hK K
      try simp only [Act.put, List.setIfInBounds_toArray, List.set_cons_zero, List.set_cons_succ]
      refine wpAnyH_take (i := 27) (v := ?v27) (by simp only [List.getElem?_toArray, List.getElem?_cons_succ, List.getElem?_cons_zero]; rfl) (by kernel_rfl) (by kernel_rfl) (by kernel_rfl) (by exact fun _ _ _ h => h) (Or.inl ⟨by rfl, ?h27⟩) (by assumption) ?_
      case h27 => (intro W hSw; (try dsimp only at hSw); go_simp; try with_reducible rfl)
      try simp only [Act.put, List.setIfInBounds_toArray, List.set_cons_zero, List.set_cons_succ]
      refine wpAnyH_take (i := 28) (v := ?v28) (by simp only [List.getElem?_toArray, List.getElem?_cons_succ, List.getElem?_cons_zero]; rfl) (by kernel_rfl) (by kernel_rfl) (by kernel_rfl) (by exact fun _ _ _ h => h) (Or.inl ⟨by rfl, ?h28⟩) (by assumption) ?_
      case h28 => (intro W hSw; (try dsimp only at hSw); go_simp; try with_reducible rfl)
      try simp only [Act.put, List.setIfInBounds_toArray, List.set_cons_zero, List.set_cons_succ]
      refine wpAnyH_take (i := 29) (v := ?v29) (by simp only [List.getElem?_toArray, List.getElem?_cons_succ, List.getElem?_cons_zero]; rfl) (by kernel_rfl) (by kernel_rfl) (by kernel_rfl) (by exact fun _ _ _ h => h) (Or.inl ⟨by rfl, ?h29⟩) (by assumption) ?_
      case h29 => (intro W hSw; (try dsimp only at hSw); go_simp; try with_reducible rfl)
      try simp only [Act.put, List.setIfInBounds_toArray, List.set_cons_zero, List.set_cons_succ]
      refine wpAnyH_take (i := 30) (v := ?v30) (by simp only [List.getElem?_toArray, List.getElem?_cons_succ, List.getElem?_cons_zero]; rfl) (by kernel_rfl) (by kernel_rfl) (by kernel_rfl) (by exact fun _ _ _ h => h) (Or.inl ⟨by rfl, ?h30⟩) (by assumption) ?_
      case h30 => (intro W hSw; (try dsimp only at hSw); go_simp; try with_reducible rfl)
      try simp only [Act.put, List.setIfInBounds_toArray, List.set_cons_zero, List.set_cons_succ]
      refine wpAnyH_done (by kernel_rfl) ?_ _
      go_wp2_with fail
      go_ret
      exact ⟨rfl, D5.out.bel.trans (hS26.mono D5.out.bel.size)⟩
end Go.Proofs.Ytpnmcdpekfibjaa
