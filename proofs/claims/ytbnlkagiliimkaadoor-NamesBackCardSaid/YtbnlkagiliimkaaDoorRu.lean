/-
  Own work. The contract of the document's answer's Unhex.
-/
import Derived.Test.YtbnlkagiliimkaaDoorIi
import Derived.Test.YtbnlkagiliimkaaDoorNv
import Derived.Test.YtbnlkagiliimkaaDoorSp
import Derived.Test.YtbnlkagiliimkaaDoorBe
import Derived.Deep.DeepCutAuto
import Derived.Lib.SmallJoins
namespace Go.Proofs.YtbnlkagiliimkaaDoor
open Go.RowKit
set_option linter.unusedVariables false
set_option linter.unusedSimpArgs false

theorem unhL_even : ∀ (a b : List UInt8), a.length % 2 = 0 → unhL (a ++ b) = unhL a ++ unhL b
  | [], _, _ => rfl
  | [x], _, h => by simp at h
  | x :: y :: a, b, h => by
    have ih := unhL_even a b (by simp at h; omega)
    show unhL (x :: y :: (a ++ b)) = _
    rw [unhL, unhL, ih]
    rfl
theorem unhL_len : ∀ (a : List UInt8), (unhL a).length ≤ a.length
  | [] => by simp [unhL]
  | [x] => by simp [unhL]
  | x :: y :: a => by
    have := unhL_len a
    rw [unhL]
    simp
    omega
theorem unhL_stay {l : List UInt8} {k : Nat} {y : UInt8} (h : l[k]? = some y) (hk : k % 2 = 0) : unhL (l.take (k + 1)) = unhL (l.take k) := by
  obtain ⟨hj, rfl⟩ := List.getElem?_eq_some_iff.1 h
  rw [List.take_succ_eq_append_getElem hj, unhL_even _ _ (by rw [List.length_take]; omega)]
  simp [unhL]
theorem unhL_next {l : List UInt8} {k : Nat} {x y : UInt8} (hx : l[k]? = some x) (hy : l[k + 1]? = some y) (hk : k % 2 = 0) : unhL (l.take (k + 2)) = unhL (l.take (k + 1)) ++ [UInt8.ofNat (16 * dgE x + dgE y).toNat] := by
  rw [unhL_stay hx hk]
  obtain ⟨h1, rfl⟩ := List.getElem?_eq_some_iff.1 hx
  obtain ⟨h2, rfl⟩ := List.getElem?_eq_some_iff.1 hy
  rw [List.take_succ_eq_append_getElem h2, List.take_succ_eq_append_getElem h1, List.append_assoc, unhL_even _ _ (by rw [List.length_take]; omega)]
  rfl
theorem unhE_bad (l : List UInt8) (h : l.all isHex = false ∨ ¬ l.length % 2 = 0) : unhE l = 4 := by
  unfold unhE
  rw [if_neg]
  rintro ⟨h1, h2⟩
  rcases h with h | h
  · rw [h1] at h; cases h
  · exact h h2
theorem unhR_bad (l : List UInt8) (h : unhE l = 4) : unhR l = [] := by unfold unhR; rw [h, if_neg (by decide)]

set_option maxRecDepth 100000 in
set_option maxHeartbeats 2000000 in
theorem runhex_any (l : List UInt8) (w : World) (hl : l.length ≤ 1073741824) :
    Calls Tryd.prog 12 #[.string ⟨l.toArray⟩] w (RetBE w (unhR l) (unhE l)) := by
  obtain ⟨S, hS⟩ : ∃ S : ByteArray, S = ⟨l.toArray⟩ := ⟨_, rfl⟩
  have hsz := str_size l S hS
  rw [← hS]
  have HS := Lib.hid hS
  obtain ⟨n, hn⟩ : ∃ n, l.length = n := ⟨_, rfl⟩
  rw [hn] at hsz hl
  have HN := Lib.hid hn
  clear hS hn
  obtain ⟨W0, hW0⟩ : ∃ W0, W0 = w := ⟨_, rfl⟩
  rw [← hW0]
  clear hW0 w
  go_enter Tryd.func12, Tryd.ntmps12
  go_wp2_with fail
  go_loopw [4, 5] (fun s x wr => ∃ (A' : Option Addr) (n' c' k : Nat), s = .slice A' n' c' ∧ k ≤ n ∧ x = .int .i64 (k : Int) ∧ OwnB wr W0.heap.size (.slice A' n' c') (unhL (l.take k)) ∧ (l.take k).all isHex = true ∧ Below W0.heap.size W0 wr) (fun _ x _ => n - (intOf x).toNat)
  case atStart => exact ⟨some ⟨W0.heap.size, 0, none⟩, 0, 0, 0, rfl, by omega, rfl, by rw [show unhL (l.take 0) = [] by simp [unhL]]; exact OwnB.empty W0, by simp, (Below.refl _ _).alloc (Nat.le_refl _) _⟩
  case round =>
    obtain ⟨A', n', c', k, rfl, hk, rfl, hown, hall, hbel⟩ := hrel
    by_cases hlt : k < n
    · obtain ⟨y, hy⟩ : ∃ y, l[k]? = some y := ⟨_, List.getElem?_eq_getElem (by rw [HN.out]; exact hlt)⟩
      have hsj := fun hj => str_at l k y hy S HS.out hj
      obtain ⟨d, hd⟩ : ∃ d, dgE y = d := ⟨_, rfl⟩
      have CD : ∀ W, Calls Tryd.prog 28 #[.int .u8 (y.toNat : Int)] W fun e w' => e = .returned (.int .i64 d) ∧ W = w' := fun W => by rw [← hd]; exact digit_any y W
      have hdr := dg_range y
      rw [hd] at hdr
      have hll : (unhL (l.take k)).length ≤ 1073741824 := by
        have := unhL_len (l.take k)
        rw [List.length_take] at this
        omega
      have HY := Lib.hid hy
      have HD := Lib.hid hd
      have HCD := Lib.hid CD
      have HA := Lib.hid hall
      have O := Lib.hid hown
      have BR := Lib.hid hbel
      have HLL := Lib.hid hll
      clear hy hd CD hall hown hbel hll
      by_cases hneg : d < 0
      · have hE := unhE_bad l (.inl (all_false HY.out (by unfold isHex; rw [HD.out, decide_eq_false_iff_not]; omega)))
        have HE := Lib.hid hE
        have HR := Lib.hid (unhR_bad l hE)
        clear hE
        go_wp2_with (first | (go_at_call 28; refine (HCD.out _).mono ?_; rintro e w3 ⟨rfl, rfl⟩))
        go_ret2
        rw [HR.out, HE.out]
        exact ⟨none, 0, 0, rfl, OwnB.nil _ _, BR.out⟩
      · have HC : Hid (isHex y = true) := Lib.hid (by unfold isHex; rw [HD.out, decide_eq_true_iff]; omega)
        by_cases hodd : k % 2 = 1
        · obtain ⟨x, hx⟩ : ∃ x, l[k - 1]? = some x := ⟨_, List.getElem?_eq_getElem (by rw [HN.out]; omega)⟩
          have hsx := fun hj => str_at l (k - 1) x hx S HS.out hj
          have hxh : 0 ≤ dgE x := by
            have hm : l[k - 1]? = some x := hx
            have h1 : (l.take k)[k - 1]? = some x := by rw [List.getElem?_take, if_pos (by omega)]; exact hx
            have h2 := List.all_eq_true.1 HA.out x (List.mem_of_getElem? h1)
            unfold isHex at h2
            rwa [decide_eq_true_iff] at h2
          have hxr := dg_range x
          have hnx : unhL (l.take (k + 1)) = unhL (l.take k) ++ [UInt8.ofNat (16 * dgE x + dgE y).toNat] := by
            have := unhL_next hx (by rw [show k - 1 + 1 = k by omega]; exact HY.out) (by omega)
            rwa [show k - 1 + 2 = k + 1 by omega, show k - 1 + 1 = k by omega] at this
          obtain ⟨zb, hzb⟩ : ∃ zb, UInt8.ofNat (16 * dgE x + dgE y).toNat = zb := ⟨_, rfl⟩
          obtain ⟨dx, hdx⟩ : ∃ dx, dgE x = dx := ⟨_, rfl⟩
          have hz8 : (16 * dx + d) = (zb.toNat : Int) := by
            rw [← hzb, UInt8.toNat_ofNat', hdx, HD.out]
            rw [hdx] at hxh hxr
            omega
          rw [hzb] at hnx
          rw [hdx] at hxh hxr
          obtain ⟨z, hz⟩ : ∃ z, (16 * dx + d) = z := ⟨_, rfl⟩
          have hz255 : 0 ≤ z ∧ z ≤ 255 := by rw [← hz, hz8]; have := zb.toNat_lt; omega
          have HZ : Hid (z = (zb.toNat : Int)) := Lib.hid (by rw [← hz]; exact hz8)
          have HDX := Lib.hid hdx
          have hm2 : (k : Int) % 2 = 1 := by omega
          have hidx : (k : Int) - 1 = ((k - 1 : Nat) : Int) := by omega
          have hkm : k - 1 < n := by omega
          obtain ⟨j1, hj1⟩ : ∃ j1, k - 1 = j1 := ⟨_, rfl⟩
          rw [hj1] at hidx hsx hkm
          have w1 : IntKind.i64.wrap (j1 : Int) = (j1 : Int) := by rw [IntKind.wrap_i64]; omega
          have w2 : IntKind.i64.wrap (16 * dx) = 16 * dx := by rw [IntKind.wrap_i64]; omega
          have w3 : IntKind.i64.wrap z = z := by rw [IntKind.wrap_i64]; omega
          have w4 : IntKind.u8.wrap z = z := by rw [IntKind.wrap_u8]; omega
          have HDG : Hid (∀ W, Calls Tryd.prog 28 #[.int .u8 (x.toNat : Int)] W fun e w' => e = .returned (.int .i64 dx) ∧ W = w') := Lib.hid (fun W => by rw [← HDX.out]; exact digit_any x W)
          have HNX := Lib.hid hnx
          clear hz8 hnx hzb hx hdx hj1
          go_wp2_with (first | (go_at_call 28; refine (HCD.out _).mono ?_; rintro e w3 ⟨rfl, rfl⟩))
          refine wp_region_held_drew (S := fun W => Below W0.heap.size W0 W) (by kernel_rfl) BR.out.drew (fun hHeld => ?_)
          refine wpAnyH_take (i := 0) (v := ?v0) (by simp only [List.getElem?_toArray, List.getElem?_cons_succ, List.getElem?_cons_zero]; rfl) (by kernel_rfl) (by kernel_rfl) (by kernel_rfl) (by exact fun _ _ _ h => h) (Or.inl ⟨by rfl, ?h0⟩) (by assumption) ?_
          case h0 => (intro W hSw; (try dsimp only at hSw); go_simp; try with_reducible rfl)
          try simp only [Act.put, List.setIfInBounds_toArray, List.set_cons_zero, List.set_cons_succ]
          refine wpAnyH_take (i := 1) (v := ?v1) (by simp only [List.getElem?_toArray, List.getElem?_cons_succ, List.getElem?_cons_zero]; rfl) (by kernel_rfl) (by kernel_rfl) (by kernel_rfl) (by exact fun _ _ _ h => h) (Or.inl ⟨by rfl, ?h1⟩) (by assumption) ?_
          case h1 => (intro W hSw; (try dsimp only at hSw); go_simp; try with_reducible rfl)
          try simp only [Act.put, List.setIfInBounds_toArray, List.set_cons_zero, List.set_cons_succ]
          refine wpAnyH_take (i := 2) (v := ?v2) (by simp only [List.getElem?_toArray, List.getElem?_cons_succ, List.getElem?_cons_zero]; rfl) (by kernel_rfl) (by kernel_rfl) (by kernel_rfl) (by exact fun _ _ _ h => h) (Or.inl ⟨by rfl, ?h2⟩) (by assumption) ?_
          case h2 => (intro W hSw; (try dsimp only at hSw); go_simp; try with_reducible rfl)
          try simp only [Act.put, List.setIfInBounds_toArray, List.set_cons_zero, List.set_cons_succ]
          refine wpAnyH_take (i := 3) (v := ?v3) (by simp only [List.getElem?_toArray, List.getElem?_cons_succ, List.getElem?_cons_zero]; rfl) (by kernel_rfl) (by kernel_rfl) (by kernel_rfl) (by exact fun _ _ _ h => h) (Or.inl ⟨by rfl, ?h3⟩) (by assumption) ?_
          case h3 => (intro W hSw; (try dsimp only at hSw); go_simp; try with_reducible rfl)
          try simp only [Act.put, List.setIfInBounds_toArray, List.set_cons_zero, List.set_cons_succ]
          refine wpAnyH_take (i := 4) (v := ?v4) (by simp only [List.getElem?_toArray, List.getElem?_cons_succ, List.getElem?_cons_zero]; rfl) (by kernel_rfl) (by kernel_rfl) (by kernel_rfl) (by exact fun _ _ _ h => h) (Or.inl ⟨by rfl, ?h4⟩) (by assumption) ?_
          case h4 => (intro W hSw; (try dsimp only at hSw); go_simp; try with_reducible rfl)
          try simp only [Act.put, List.setIfInBounds_toArray, List.set_cons_zero, List.set_cons_succ]
          refine wpAnyH_take (i := 7) (v := ?v7) (by simp only [List.getElem?_toArray, List.getElem?_cons_succ, List.getElem?_cons_zero]; rfl) (by kernel_rfl) (by kernel_rfl) (by kernel_rfl) (by exact fun _ _ _ h => h) (Or.inl ⟨by rfl, ?h7⟩) (by assumption) ?_
          case h7 => (intro W hSw; (try dsimp only at hSw); go_simp; try with_reducible rfl)
          try simp only [Act.put, List.setIfInBounds_toArray, List.set_cons_zero, List.set_cons_succ]
          refine wpAnyH_take (i := 8) (v := ?v8) (by simp only [List.getElem?_toArray, List.getElem?_cons_succ, List.getElem?_cons_zero]; rfl) (by kernel_rfl) (by kernel_rfl) (by kernel_rfl) (by exact fun _ _ _ h => h) (Or.inl ⟨by rfl, ?h8⟩) (by assumption) ?_
          case h8 => (intro W hSw; (try dsimp only at hSw); go_simp; try with_reducible rfl)
          try simp only [Act.put, List.setIfInBounds_toArray, List.set_cons_zero, List.set_cons_succ]
          refine wpAnyH_take (i := 9) (v := ?v9) (by simp only [List.getElem?_toArray, List.getElem?_cons_succ, List.getElem?_cons_zero]; rfl) (by kernel_rfl) (by kernel_rfl) (by kernel_rfl) (by exact fun _ _ _ h => h) (Or.inl ⟨by rfl, ?h9⟩) (by assumption) ?_
          case h9 => (intro W hSw; (try dsimp only at hSw); go_simp; try with_reducible rfl)
          try simp only [Act.put, List.setIfInBounds_toArray, List.set_cons_zero, List.set_cons_succ]
          refine wpAnyH_ready (rs := [5]) (by kernel_rfl) (by simp) ?_
          refine AllReadyH.cons (by simp only [List.getElem?_toArray, List.getElem?_cons_succ, List.getElem?_cons_zero]; rfl) (fun K hK => ?_) AllReadyH.nil
          go_simp
          refine (HDG.out _).mono ?_
          rintro e w3 ⟨rfl, rfl⟩
          have hS5 := hHeld
          refine hK _ _ hS5 (fun hH5 => ?_)
          clear hK K
          try simp only [Act.put, List.setIfInBounds_toArray, List.set_cons_zero, List.set_cons_succ]
          refine wpAnyH_take (i := 6) (v := ?v6) (by simp only [List.getElem?_toArray, List.getElem?_cons_succ, List.getElem?_cons_zero]; rfl) (by kernel_rfl) (by kernel_rfl) (by kernel_rfl) (by exact fun _ _ _ h => h) (Or.inl ⟨by rfl, ?h6⟩) (by assumption) ?_
          case h6 => (intro W hSw; (try dsimp only at hSw); go_simp; try with_reducible rfl)
          try simp only [Act.put, List.setIfInBounds_toArray, List.set_cons_zero, List.set_cons_succ]
          refine wpAnyH_ready (rs := [10]) (by kernel_rfl) (by simp) ?_
          refine AllReadyH.cons (by simp only [List.getElem?_toArray, List.getElem?_cons_succ, List.getElem?_cons_zero]; rfl) (fun K hK => ?_) AllReadyH.nil
          go_simp
          refine (HCD.out _).mono ?_
          rintro e w4 ⟨rfl, rfl⟩
          have hS10 := hS5
          refine hK _ _ hS10 (fun hH10 => ?_)
          clear hK K
          try simp only [Act.put, List.setIfInBounds_toArray, List.set_cons_zero, List.set_cons_succ]
          refine wpAnyH_take (i := 11) (v := ?v11) (by simp only [List.getElem?_toArray, List.getElem?_cons_succ, List.getElem?_cons_zero]; rfl) (by kernel_rfl) (by kernel_rfl) (by kernel_rfl) (by exact fun _ _ _ h => h) (Or.inl ⟨by rfl, ?h11⟩) (by assumption) ?_
          case h11 => (intro W hSw; (try dsimp only at hSw); go_simp; try with_reducible rfl)
          try simp only [Act.put, List.setIfInBounds_toArray, List.set_cons_zero, List.set_cons_succ]
          refine wpAnyH_take (i := 12) (v := ?v12) (by simp only [List.getElem?_toArray, List.getElem?_cons_succ, List.getElem?_cons_zero]; rfl) (by kernel_rfl) (by kernel_rfl) (by kernel_rfl) (by exact fun _ _ _ h => h) (Or.inl ⟨by rfl, ?h12⟩) (by assumption) ?_
          case h12 => (intro W hSw; (try dsimp only at hSw); go_simp; try with_reducible rfl)
          try simp only [Act.put, List.setIfInBounds_toArray, List.set_cons_zero, List.set_cons_succ]
          refine wpAnyH_ready (rs := [13]) (by kernel_rfl) (by simp) ?_
          refine AllReadyH.cons (by simp only [List.getElem?_toArray, List.getElem?_cons_succ, List.getElem?_cons_zero]; rfl) (fun K hK => ?_) AllReadyH.nil
          go_simp
          have hS13 : Below W0.heap.size W0 (wr.drew.alloc (.cells #[.int .u8 z] 5)) := hS10.alloc hS10.size _
          refine hK _ _ hS13 (fun hH13 => ?_)
          clear hK K
          try simp only [Act.put, List.setIfInBounds_toArray, List.set_cons_zero, List.set_cons_succ]
          refine wpAnyH_ready (rs := [14]) (by kernel_rfl) (by simp) ?_
          refine AllReadyH.cons (by simp only [List.getElem?_toArray, List.getElem?_cons_succ, List.getElem?_cons_zero]; rfl) (fun K hK => ?_) AllReadyH.nil
          refine step_app (by rfl) (.tmp 21) (.tmp 34) rfl Tryd.underlying24 infoU8 W0.heap.size _ _ [zb] rfl ((show OwnB wr.drew W0.heap.size _ _ from O.out).alloc _) _ _ _ _ rfl (HasB.one wr.drew z zb 5 HZ.out) (by have := HLL.out; simp only [List.length_singleton]; omega) hS13.size ?_
          intro A5 n5 c5 w5 hown5 hb5
          have hS14 : Below W0.heap.size W0 w5 := hS13.trans hb5
          refine hK _ _ hS14 (fun hH14 => ?_)
          clear hK K
          try simp only [Act.put, List.setIfInBounds_toArray, List.set_cons_zero, List.set_cons_succ]
          refine wpAnyH_take (i := 15) (v := ?v15) (by simp only [List.getElem?_toArray, List.getElem?_cons_succ, List.getElem?_cons_zero]; rfl) (by kernel_rfl) (by kernel_rfl) (by kernel_rfl) (by exact fun _ _ _ h => h) (Or.inl ⟨by rfl, ?h15⟩) (by assumption) ?_
          case h15 => (intro W hSw; (try dsimp only at hSw); go_simp; try with_reducible rfl)
          try simp only [Act.put, List.setIfInBounds_toArray, List.set_cons_zero, List.set_cons_succ]
          refine wpAnyH_done (by kernel_rfl) ?_ _
          have hown6 : OwnB w5 W0.heap.size (.slice A5 n5 c5) (unhL (l.take (k + 1))) := by
            rw [HNX.out]
            exact hown5
          go_wp2_with fail
          go_roundw
          case rel => exact ⟨A5, n5, c5, k + 1, rfl, by omega, by go_num, hown6, by rw [all_take HY.out, HA.out, HC.out]; rfl, hS14⟩
          case measure => simp [intOf]; omega
        · have hev : k % 2 = 0 := by omega
          have HST := Lib.hid (unhL_stay HY.out hev)
          have hm2 : ¬ (k : Int) % 2 = 1 := by omega
          have hm3 : (k : Int) % 2 = 0 := by omega
          go_wp2_with (first | (go_at_call 28; refine (HCD.out _).mono ?_; rintro e w3 ⟨rfl, rfl⟩))
          go_roundw
          case rel => exact ⟨A', n', c', k + 1, rfl, by omega, by go_num, by rw [HST.out]; exact O.out, by rw [all_take HY.out, HA.out, HC.out]; rfl, BR.out⟩
          case measure => simp [intOf]; omega
    · obtain rfl : k = n := by omega
      rw [List.take_of_length_le (by rw [HN.out]; exact Nat.le_refl _)] at hall hown
      have O := Lib.hid hown
      have BR := Lib.hid hbel
      have HA := Lib.hid hall
      clear hown hbel hall
      by_cases hodd : k % 2 = 1
      · have hE := unhE_bad l (.inr (by rw [HN.out]; omega))
        have HE := Lib.hid hE
        have HR := Lib.hid (unhR_bad l hE)
        have hm2 : (k : Int) % 2 = 1 := by omega
        clear hE
        go_wp2_with fail
        go_ret2
        rw [HR.out, HE.out]
        exact ⟨none, 0, 0, rfl, OwnB.nil _ _, BR.out⟩
      · have hE : unhE l = 0 := by unfold unhE; rw [if_pos ⟨HA.out, by rw [HN.out]; omega⟩]
        have hR : unhR l = unhL l := by unfold unhR; rw [if_pos hE]
        have HE := Lib.hid hE
        have HR := Lib.hid hR
        have hm3 : (k : Int) % 2 = 0 := by omega
        clear hE hR
        go_wp2_with fail
        go_ret2
        rw [HR.out, HE.out]
        exact ⟨A', n', c', rfl, O.out, BR.out⟩
end Go.Proofs.YtbnlkagiliimkaaDoor
