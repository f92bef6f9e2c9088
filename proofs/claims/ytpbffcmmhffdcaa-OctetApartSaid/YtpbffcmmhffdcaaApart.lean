/-
  The law OctetApart walked: no count is the beginning of another one.
-/
import Derived.Test.YtpbffcmmhffdcaaBeg
import Derived.Deep.RegionWith
import Derived.Deep.DeepCutAuto
import Derived.Deep.RegionHeld3
import Derived.Lib.Strings
namespace Go.Proofs.Ytpbffcmmhffdcaa
open Go.RowKit
set_option linter.unusedVariables false
set_option linter.unusedSimpArgs false

theorem ofNat_inj' {a b : Nat} (ha : a < 256) (hb : b < 256) (h : UInt8.ofNat a = UInt8.ofNat b) : a = b := by
  have := congrArg UInt8.toNat h
  simpa [Nat.mod_eq_of_lt ha, Nat.mod_eq_of_lt hb] using this

theorem leb_pos (a : Nat) : 0 < (leb a).length := by
  by_cases h : a < 128
  · rw [leb_small h]; simp
  · rw [leb_big h]; simp

/-- Of two counts none is the beginning of the other. -/
theorem leb_apart (a : Nat) : ∀ b : Nat, (leb a).take (min (leb a).length (leb b).length) = (leb b).take (min (leb a).length (leb b).length) → a = b := by
  induction a using Nat.strongRecOn with
  | _ a ih =>
    intro b h
    by_cases ha : a < 128
    · by_cases hb : b < 128
      · rw [leb_small ha, leb_small hb] at h
        simp only [List.length_singleton, Nat.min_self, List.take_succ_cons, List.take_zero, List.cons.injEq, and_true] at h
        exact ofNat_inj' (by omega) (by omega) h
      · exfalso
        rw [leb_small ha, leb_big hb] at h
        rw [show min [UInt8.ofNat a].length (UInt8.ofNat (b % 128 + 128) :: leb (b / 128)).length = 1 by simp] at h
        simp only [List.take_succ_cons, List.take_zero, List.cons.injEq, and_true] at h
        have := ofNat_inj' (by omega) (by omega) h
        omega
    · by_cases hb : b < 128
      · exfalso
        rw [leb_big ha, leb_small hb] at h
        rw [show min (UInt8.ofNat (a % 128 + 128) :: leb (a / 128)).length [UInt8.ofNat b].length = 1 by simp] at h
        simp only [List.take_succ_cons, List.take_zero, List.cons.injEq, and_true] at h
        have := ofNat_inj' (by omega) (by omega) h
        omega
      · rw [leb_big ha, leb_big hb] at h
        simp only [List.length_cons, Nat.add_min_add_right, List.take_succ_cons, List.cons.injEq] at h
        have h1 := ofNat_inj' (by omega) (by omega) h.1
        have h2 := ih (a / 128) (by omega) (b / 128) h.2
        omega

theorem extract_toList (s : ByteArray) (m : Nat) : (s.extract 0 m).data.toList = s.data.toList.take m := by
  rw [Lib.extract_data]
  simp

theorem min_cast (a b : Nat) : min (a : Int) (b : Int) = ((min a b : Nat) : Int) := by omega

set_option maxHeartbeats 1000000 in
set_option maxRecDepth 100000 in
theorem apart_any (a b : Nat) (w : World) (ha : a < 18446744073709551616) (hb : b < 18446744073709551616) :
    Calls Try.prog 7 #[.int .u64 (a : Int), .int .u64 (b : Int)] w (RetTrue w) := by
  generalize hs1 : (⟨(leb a).toArray⟩ : ByteArray) = s1
  generalize hs2 : (⟨(leb b).toArray⟩ : ByteArray) = s2
  have z1 : s1.size = (leb a).length := by rw [← hs1]; simp [ByteArray.size]
  have z2 : s2.size = (leb b).length := by rw [← hs2]; simp [ByteArray.size]
  have HS1 := Lib.hid hs1
  have HS2 := Lib.hid hs2
  have Z1 := Lib.hid z1
  have Z2 := Lib.hid z2
  clear hs1 hs2 z1 z2
  go_enter Try.func7, Try.ntmps7
  go_upto_region 1 with fail
  go_cut [5, 6] (fun s5 s6 wx => s5 = .string s1 ∧ s6 = .string s2 ∧ Below w.heap.size w wx)
  case first =>
    go_region_with (first
      | (go_at_call_of 15 (Value.int IntKind.u64 (a : Int)); refine (count_any none [] 0 0 a _ (HasB.nil _ _ _) (by omega) ha).mono ?_; rintro e w1 ⟨A1, n1, c1, rfl, hown1, hb1⟩
         have hr1 := Below.refl w1.heap.size w1
         have hcv1 : ∀ W, Below w1.heap.size w1 W → (convert 22 9 (.slice A1 n1 c1)).run Try.prog W = .ok (.string s1) W := fun W hW => by rw [← HS1.out]; exact run_conv Try.underlying22 Try.underlying5 Try.underlying9 _ _ _ _ _ (hown1.below hW).has)
      | (go_at_call_of 15 (Value.int IntKind.u64 (b : Int)); refine (count_any none [] 0 0 b _ (HasB.nil _ _ _) (by omega) hb).mono ?_; rintro e w2 ⟨A2, n2, c2, rfl, hown2, hb2⟩
         have hr2 := Below.refl w2.heap.size w2
         have hcv2 : ∀ W, Below w2.heap.size w2 W → (convert 22 9 (.slice A2 n2 c2)).run Try.prog W = .ok (.string s2) W := fun W hW => by rw [← HS2.out]; exact run_conv Try.underlying22 Try.underlying5 Try.underlying9 _ _ _ _ _ (hown2.below hW).has))
    all_goals
      go_wp2_with fail
      go_meet
      exact ⟨rfl, rfl, (Below.refl w.heap.size w).drew.trans (hb1.trans (hb2.mono hb1.size))⟩
  case rest =>
    obtain ⟨rfl, rfl, hbel⟩ := hcut
    go_upto_region 2 with fail
    go_cut [7] (fun s7 wx => s7 = .int .i64 ((min s1.size s2.size : Nat) : Int) ∧ wx = wc)
    case first =>
      go_wp2_with fail
      go_meet
      exact ⟨congrArg (Value.int .i64) (min_cast _ _), rfl⟩
    case rest =>
      obtain ⟨rfl, rfl⟩ := hcut
      have p1 := leb_pos a
      have p2 := leb_pos b
      have m0 : 0 < min s1.size s2.size := by rw [Z1.out, Z2.out]; omega
      have m1 : min s1.size s2.size ≤ s1.size := by omega
      have m2 : min s1.size s2.size ≤ s2.size := by omega
      have hx : a ≠ b → ((s1.extract 0 (min s1.size s2.size)).toList == (s2.extract 0 (min s1.size s2.size)).toList) = false := by
        intro hne
        rw [beq_eq_false_iff_ne]
        intro he
        apply hne
        apply leb_apart a b
        rw [ByteArray.toList_eq, ByteArray.toList_eq, extract_toList, extract_toList, Z1.out, Z2.out, ← HS1.out, ← HS2.out] at he
        exact he
      generalize hm : min s1.size s2.size = m at *
      clear hm p1 p2
      by_cases hab : a = b
      · clear hx
        subst hab
        go_wp2_with fail
        refine wp_region_any (by kernel_rfl) ?_
        change wpAny _ _ _ _ _ _ _ (World.drew _)
        refine wpAny_ready (rs := [0]) (by kernel_rfl) (by simp) ?_
        refine AllReady.cons rfl (fun K hK => ?_) AllReady.nil
        go_simp
        go_wp2_with (go_at_call 11; refine (begun_any _).mono ?_; rintro e w3 ⟨rfl, hb3⟩)
        refine wpAny_take (i := 1) (v := ?v1) (by simp only [List.getElem?_toArray, List.getElem?_cons_succ, List.getElem?_cons_zero]; rfl) (by kernel_rfl) (by kernel_rfl) (by kernel_rfl) (by exact fun _ _ _ h => h) (Or.inl ⟨by rfl, ?h1⟩) ?_
        case h1 => (intro w; go_simp; try with_reducible rfl)
        simp only [Act.put, List.setIfInBounds_toArray, List.set_cons_zero, List.set_cons_succ]
        refine wpAny_take (i := 2) (v := ?v2) (by simp only [List.getElem?_toArray, List.getElem?_cons_succ, List.getElem?_cons_zero]; rfl) (by kernel_rfl) (by kernel_rfl) (by kernel_rfl) (by exact fun _ _ _ h => h) (Or.inl ⟨by rfl, ?h2⟩) ?_
        case h2 => (intro w; go_simp; try with_reducible rfl)
        simp only [Act.put, List.setIfInBounds_toArray, List.set_cons_zero, List.set_cons_succ]
        refine wpAny_take (i := 3) (v := ?v3) (by simp only [List.getElem?_toArray, List.getElem?_cons_succ, List.getElem?_cons_zero]; rfl) (by kernel_rfl) (by kernel_rfl) (by kernel_rfl) (by exact fun _ _ _ h => h) (Or.inl ⟨by rfl, ?h3⟩) ?_
        case h3 => (intro w; go_simp; try with_reducible rfl)
        simp only [Act.put, List.setIfInBounds_toArray, List.set_cons_zero, List.set_cons_succ]
        refine wpAny_take (i := 4) (v := ?v4) (by simp only [List.getElem?_toArray, List.getElem?_cons_succ, List.getElem?_cons_zero]; rfl) (by kernel_rfl) (by kernel_rfl) (by kernel_rfl) (by exact fun _ _ _ h => h) (Or.inl ⟨by rfl, ?h4⟩) ?_
        case h4 => (intro w; go_simp; try with_reducible rfl)
        simp only [Act.put, List.setIfInBounds_toArray, List.set_cons_zero, List.set_cons_succ]
        refine wpAny_take (i := 5) (v := ?v5) (by simp only [List.getElem?_toArray, List.getElem?_cons_succ, List.getElem?_cons_zero]; rfl) (by kernel_rfl) (by kernel_rfl) (by kernel_rfl) (by exact fun _ _ _ h => h) (Or.inl ⟨by rfl, ?h5⟩) ?_
        case h5 => (intro w; go_simp; try with_reducible rfl)
        simp only [Act.put, List.setIfInBounds_toArray, List.set_cons_zero, List.set_cons_succ]
        refine wpAny_take (i := 6) (v := ?v6) (by simp only [List.getElem?_toArray, List.getElem?_cons_succ, List.getElem?_cons_zero]; rfl) (by kernel_rfl) (by kernel_rfl) (by kernel_rfl) (by exact fun _ _ _ h => h) (Or.inl ⟨by rfl, ?h6⟩) ?_
        case h6 => (intro w; go_simp; try with_reducible rfl)
        simp only [Act.put, List.setIfInBounds_toArray, List.set_cons_zero, List.set_cons_succ]
        refine wpAny_take (i := 7) (v := ?v7) (by simp only [List.getElem?_toArray, List.getElem?_cons_succ, List.getElem?_cons_zero]; rfl) (by kernel_rfl) (by kernel_rfl) (by kernel_rfl) (by exact fun _ _ _ h => h) (Or.inl ⟨by rfl, ?h7⟩) ?_
        case h7 => (intro w; go_simp; try with_reducible rfl)
        simp only [Act.put, List.setIfInBounds_toArray, List.set_cons_zero, List.set_cons_succ]
        refine wpAny_take (i := 8) (v := ?v8) (by simp only [List.getElem?_toArray, List.getElem?_cons_succ, List.getElem?_cons_zero]; rfl) (by kernel_rfl) (by kernel_rfl) (by kernel_rfl) (by exact fun _ _ _ h => h) (Or.inl ⟨by rfl, ?h8⟩) ?_
        case h8 => (intro w; go_simp; try with_reducible rfl)
        simp only [Act.put, List.setIfInBounds_toArray, List.set_cons_zero, List.set_cons_succ]
        refine wpAny_take (i := 9) (v := ?v9) (by simp only [List.getElem?_toArray, List.getElem?_cons_succ, List.getElem?_cons_zero]; rfl) (by kernel_rfl) (by kernel_rfl) (by kernel_rfl) (by exact fun _ _ _ h => h) (Or.inl ⟨by rfl, ?h9⟩) ?_
        case h9 => (intro w; go_simp; try with_reducible rfl)
        simp only [Act.put, List.setIfInBounds_toArray, List.set_cons_zero, List.set_cons_succ]
        refine wpAny_take (i := 10) (v := undef) (by simp only [List.getElem?_toArray, List.getElem?_cons_succ, List.getElem?_cons_zero]; rfl) (by kernel_rfl) (by kernel_rfl) (by kernel_rfl) (by exact fun _ _ _ h => h) (Or.inr ⟨by rfl, rfl⟩) ?_
        simp only [Act.put, List.setIfInBounds_toArray, List.set_cons_zero, List.set_cons_succ]
        refine wpAny_take (i := 11) (v := undef) (by simp only [List.getElem?_toArray, List.getElem?_cons_succ, List.getElem?_cons_zero]; rfl) (by kernel_rfl) (by kernel_rfl) (by kernel_rfl) (by exact fun _ _ _ h => h) (Or.inr ⟨by rfl, rfl⟩) ?_
        simp only [Act.put, List.setIfInBounds_toArray, List.set_cons_zero, List.set_cons_succ]
        refine wpAny_take (i := 12) (v := undef) (by simp only [List.getElem?_toArray, List.getElem?_cons_succ, List.getElem?_cons_zero]; rfl) (by kernel_rfl) (by kernel_rfl) (by kernel_rfl) (by exact fun _ _ _ h => h) (Or.inr ⟨by rfl, rfl⟩) ?_
        simp only [Act.put, List.setIfInBounds_toArray, List.set_cons_zero, List.set_cons_succ]
        refine wpAny_take (i := 13) (v := undef) (by simp only [List.getElem?_toArray, List.getElem?_cons_succ, List.getElem?_cons_zero]; rfl) (by kernel_rfl) (by kernel_rfl) (by kernel_rfl) (by exact fun _ _ _ h => h) (Or.inr ⟨by rfl, rfl⟩) ?_
        simp only [Act.put, List.setIfInBounds_toArray, List.set_cons_zero, List.set_cons_succ]
        refine wpAny_take (i := 14) (v := undef) (by simp only [List.getElem?_toArray, List.getElem?_cons_succ, List.getElem?_cons_zero]; rfl) (by kernel_rfl) (by kernel_rfl) (by kernel_rfl) (by exact fun _ _ _ h => h) (Or.inr ⟨by rfl, rfl⟩) ?_
        simp only [Act.put, List.setIfInBounds_toArray, List.set_cons_zero, List.set_cons_succ]
        refine wpAny_take (i := 15) (v := undef) (by simp only [List.getElem?_toArray, List.getElem?_cons_succ, List.getElem?_cons_zero]; rfl) (by kernel_rfl) (by kernel_rfl) (by kernel_rfl) (by exact fun _ _ _ h => h) (Or.inr ⟨by rfl, rfl⟩) ?_
        simp only [Act.put, List.setIfInBounds_toArray, List.set_cons_zero, List.set_cons_succ]
        refine wpAny_take (i := 16) (v := undef) (by simp only [List.getElem?_toArray, List.getElem?_cons_succ, List.getElem?_cons_zero]; rfl) (by kernel_rfl) (by kernel_rfl) (by kernel_rfl) (by exact fun _ _ _ h => h) (Or.inr ⟨by rfl, rfl⟩) ?_
        simp only [Act.put, List.setIfInBounds_toArray, List.set_cons_zero, List.set_cons_succ]
        refine wpAny_take (i := 17) (v := ?v17) (by simp only [List.getElem?_toArray, List.getElem?_cons_succ, List.getElem?_cons_zero]; rfl) (by kernel_rfl) (by kernel_rfl) (by kernel_rfl) (by exact fun _ _ _ h => h) (Or.inl ⟨by rfl, ?h17⟩) ?_
        case h17 => (intro w; go_simp; try with_reducible rfl)
        simp only [Act.put, List.setIfInBounds_toArray, List.set_cons_zero, List.set_cons_succ]
        refine wpAny_take (i := 18) (v := ?v18) (by simp only [List.getElem?_toArray, List.getElem?_cons_succ, List.getElem?_cons_zero]; rfl) (by kernel_rfl) (by kernel_rfl) (by kernel_rfl) (by exact fun _ _ _ h => h) (Or.inl ⟨by rfl, ?h18⟩) ?_
        case h18 => (intro w; go_simp; try with_reducible rfl)
        simp only [Act.put, List.setIfInBounds_toArray, List.set_cons_zero, List.set_cons_succ]
        refine wpAny_take (i := 19) (v := ?v19) (by simp only [List.getElem?_toArray, List.getElem?_cons_succ, List.getElem?_cons_zero]; rfl) (by kernel_rfl) (by kernel_rfl) (by kernel_rfl) (by exact fun _ _ _ h => h) (Or.inl ⟨by rfl, ?h19⟩) ?_
        case h19 => (intro w; go_simp; try with_reducible rfl)
        simp only [Act.put, List.setIfInBounds_toArray, List.set_cons_zero, List.set_cons_succ]
        refine wpAny_done (by kernel_rfl) ?_ _
        go_wp2_with fail
        go_ret
        exact ⟨rfl, hbel.drew.trans (hb3.mono hbel.size)⟩
      · have t : ((a : Int) == (b : Int)) = false := by simp; omega
        have t' : (a == b) = false := by simp; omega
        have hx1 := hx hab
        clear hab hx
        go_wp2_with fail
        go_region_held3 (fun w' => Below w.heap.size w w') (first | assumption | exact hbel.drew) ((go_at_call 11; refine (begun_any _).mono ?_; rintro e w3 ⟨rfl, hb3⟩; have hk3 := Below.trans ‹Below w.heap.size w _› (hb3.mono (Below.size ‹Below w.heap.size w _›))))
        go_wp2_with fail
        go_ret
        exact ⟨rfl, by assumption⟩
end Go.Proofs.Ytpbffcmmhffdcaa
