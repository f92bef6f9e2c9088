/-
  Own work. The contracts of names' Unhex and ID.
-/
import Derived.Test.YtbnlkagiliimkaaDoorNm1
import Derived.Test.YtbnlkagiliimkaaDoorRi
namespace Go.Proofs.YtbnlkagiliimkaaDoor
open Go.RowKit
set_option linter.unusedVariables false
set_option linter.unusedSimpArgs false

theorem or_half : ∀ (a b : Fin 16), bits .or .u8 ((a.val * 16 : Nat) : Int) (b.val : Int) = ((16 * a.val + b.val : Nat) : Int) := by decide +kernel

set_option maxRecDepth 100000 in
set_option maxHeartbeats 2000000 in
theorem unhex_any (l : List UInt8) (w : World) (hl : l.length ≤ 1073741824) : Calls Tryd.prog 11 #[.string ⟨l.toArray⟩] w (RetBE w (unhR l) (unhE l)) := by
  have CA := fun W => allDigits_any l 16 (by omega) W (by omega)
  have hfun : (l.all fun c => decide (wthE c < 16)) = l.all isHex := by
    congr 1
    funext c
    rw [wth_hex]
  rw [hfun] at CA
  obtain ⟨S, hS⟩ : ∃ S : ByteArray, S = ⟨l.toArray⟩ := ⟨_, rfl⟩
  have hsz := str_size l S hS
  rw [← hS] at CA ⊢
  have HS := Lib.hid hS
  obtain ⟨n, hn⟩ : ∃ n, l.length = n := ⟨_, rfl⟩
  rw [hn] at hsz hl
  have HN := Lib.hid hn
  obtain ⟨W0, hW0⟩ : ∃ W0, W0 = w := ⟨_, rfl⟩
  rw [← hW0]
  clear hS hn hfun hW0 w
  by_cases hodd : n % 2 = 1
  · have hE := unhE_bad l (.inr (by rw [HN.out]; omega))
    have hR := unhR_bad l hE
    have hm2 : (n : Int) % 2 = 1 := by omega
    rw [hE, hR]
    clear hE hR CA hodd
    go_enter Tryd.func11, Tryd.ntmps11
    go_wp2_with fail
    go_ret2
    exact ⟨none, 0, 0, rfl, OwnB.nil _ _, Below.refl _ _⟩
  · have hm3 : (n : Int) % 2 = 0 := by omega
    cases hall : l.all isHex with
    | false =>
      have hE := unhE_bad l (.inl hall)
      have hR := unhR_bad l hE
      rw [hall] at CA
      have C := Lib.hid CA
      rw [hE, hR]
      clear hE hR CA hodd hall
      go_enter Tryd.func11, Tryd.ntmps11
      go_wp2_with (go_at_call 26; refine (C.out _).mono ?_; rintro e w3 ⟨rfl, rfl⟩)
      go_ret2
      exact ⟨none, 0, 0, rfl, OwnB.nil _ _, Below.refl _ _⟩
    | true =>
      have hE : unhE l = 0 := by unfold unhE; rw [if_pos ⟨hall, by rw [HN.out]; omega⟩]
      have hR : unhR l = unhL l := by unfold unhR; rw [if_pos hE]
      rw [hall] at CA
      have C := Lib.hid CA
      have HA := Lib.hid hall
      have HE := Lib.hid hE
      have HR := Lib.hid hR
      have hev : n % 2 = 0 := by omega
      clear hE hR CA hodd hall
      have hq2 : (n : Int) / 2 = ((n / 2 : Nat) : Int) := by omega
      have hq3 : n / 2 ≤ 536870912 := by omega
      obtain ⟨h2, hh2⟩ : ∃ h2, n / 2 = h2 := ⟨_, rfl⟩
      rw [hh2] at hq2 hq3
      clear hh2
      go_enter Tryd.func11, Tryd.ntmps11
      go_wp2_with (first
        | (go_at_call 26; refine (C.out _).mono ?_; rintro e w3 ⟨rfl, rfl⟩)
        | (at_make; refine wp_mk0 _ rfl _ _ rfl Tryd.underlying24 infoU8 W0.heap.size _ _ _ h2 rfl rfl (by omega) (by omega) (Nat.le_refl _) ?_; intro w1 hown1 hb1))
      clear C hm3 hq2 hq3
      go_loopw [4, 5] (fun s x wr => ∃ (A' : Option Addr) (n' c' k : Nat), s = .slice A' n' c' ∧ k ≤ n ∧ k % 2 = 0 ∧ x = .int .i64 (k : Int) ∧ OwnB wr W0.heap.size (.slice A' n' c') (unhL (l.take k)) ∧ Below W0.heap.size W0 wr) (fun _ x _ => n - (intOf x).toNat)
      case atStart => exact ⟨_, _, _, 0, rfl, by omega, rfl, rfl, by rw [show unhL (l.take 0) = [] by simp [unhL]]; exact hown1, hb1⟩
      case round =>
        obtain ⟨A', n', c', k, rfl, hk, hk2, rfl, hown, hbel⟩ := hrel
        clear hown1 hb1
        by_cases hlt : k < n
        · have hlt1 : k + 1 < n := by omega
          obtain ⟨x, hx⟩ : ∃ x, l[k]? = some x := ⟨_, List.getElem?_eq_getElem (by rw [HN.out]; exact hlt)⟩
          obtain ⟨y, hy⟩ : ∃ y, l[k + 1]? = some y := ⟨_, List.getElem?_eq_getElem (by rw [HN.out]; exact hlt1)⟩
          have hsx := fun hj => str_at l k x hx S HS.out hj
          have hsy := fun hj => str_at l (k + 1) y hy S HS.out hj
          have hpx : wthE x < 16 := by
            have := List.all_eq_true.1 HA.out x (List.mem_of_getElem? hx)
            rwa [wth_hex, decide_eq_true_iff] at this
          have hpy : wthE y < 16 := by
            have := List.all_eq_true.1 HA.out y (List.mem_of_getElem? hy)
            rwa [wth_hex, decide_eq_true_iff] at this
          have hll : (unhL (l.take k)).length ≤ 1073741824 := by
            have := unhL_len (l.take k)
            rw [List.length_take] at this
            omega
          have hnx := unhL_next hx hy hk2
          rw [unhL_stay hx hk2, wth_dg hpx, wth_dg hpy] at hnx
          have cx := worth_any x
          have cy := worth_any y
          obtain ⟨v, hv⟩ : ∃ v, wthE x = v := ⟨_, rfl⟩
          obtain ⟨u, hu⟩ : ∃ u, wthE y = u := ⟨_, rfl⟩
          rw [hv] at hpx hnx cx
          rw [hu] at hpy hnx cy
          obtain ⟨zb, hzb⟩ : ∃ zb, UInt8.ofNat (16 * (v : Int) + (u : Int)).toNat = zb := ⟨_, rfl⟩
          rw [hzb] at hnx
          have hor := or_half ⟨v, hpx⟩ ⟨u, hpy⟩
          dsimp only at hor
          obtain ⟨p, hp⟩ : ∃ p, v * 16 = p := ⟨_, rfl⟩
          obtain ⟨z, hz⟩ : ∃ z, 16 * v + u = z := ⟨_, rfl⟩
          rw [hp, hz] at hor
          have hzz : zb.toNat = z := by
            rw [← hzb, UInt8.toNat_ofNat', ← hz]
            omega
          have hp255 : p ≤ 240 := by omega
          have hz255 : z ≤ 255 := by omega
          have hps : (v : Int) * 16 = (p : Int) := by omega
          have hpw : IntKind.u8.wrap (p : Int) = (p : Int) := by rw [IntKind.wrap_u8]; omega
          have HX := Lib.hid hx
          have HNX := Lib.hid hnx
          have CX := Lib.hid cx
          have CY := Lib.hid cy
          have HZ := Lib.hid hzz
          have O := Lib.hid hown
          have BR := Lib.hid hbel
          have HLL := Lib.hid hll
          have wk : IntKind.i64.wrap ((k : Int) + 1) = (k : Int) + 1 := by rw [IntKind.wrap_i64]; omega
          have wt : ((k : Int) + 1).toNat = k + 1 := by omega
          have wl : (k : Int) + 1 < (n : Int) := by omega
          have wp : 0 ≤ (k : Int) + 1 := by omega
          clear hx hy hnx cx cy hv hu hzb hz hp hzz hown hbel hll
          go_wp2_with fail
          refine wp_region_held_drew (S := fun W => Below W0.heap.size W0 W) (by kernel_rfl) BR.out.drew (fun hHeld => ?_)
          refine wpAnyH_take (i := 0) (v := ?v0) (by simp only [List.getElem?_toArray, List.getElem?_cons_succ, List.getElem?_cons_zero]; rfl) (by kernel_rfl) (by kernel_rfl) (by kernel_rfl) (by exact fun _ _ _ h => h) (Or.inl ⟨by rfl, ?h0⟩) (by assumption) ?_
          case h0 => (intro W hSw; (try dsimp only at hSw); go_simp; try with_reducible rfl)
          try simp only [Act.put, List.setIfInBounds_toArray, List.set_cons_zero, List.set_cons_succ]
          refine wpAnyH_take (i := 1) (v := ?v1) (by simp only [List.getElem?_toArray, List.getElem?_cons_succ, List.getElem?_cons_zero]; rfl) (by kernel_rfl) (by kernel_rfl) (by kernel_rfl) (by exact fun _ _ _ h => h) (Or.inl ⟨by rfl, ?h1⟩) (by assumption) ?_
          case h1 => (intro W hSw; (try dsimp only at hSw); go_simp; try with_reducible rfl)
          try simp only [Act.put, List.setIfInBounds_toArray, List.set_cons_zero, List.set_cons_succ]
          refine wpAnyH_take (i := 2) (v := ?v2) (by simp only [List.getElem?_toArray, List.getElem?_cons_succ, List.getElem?_cons_zero]; rfl) (by kernel_rfl) (by kernel_rfl) (by kernel_rfl) (by exact fun _ _ _ h => h) (Or.inl ⟨by rfl, ?h2⟩) (by assumption) ?_
          case h2 => (intro W hSw; (try dsimp only at hSw); go_simp; try with_reducible rfl)
          try simp only [Act.put, List.setIfInBounds_toArray, List.set_cons_zero, List.set_cons_succ]
          refine wpAnyH_take (i := 3) (v := ?v3) (by simp only [List.getElem?_toArray, List.getElem?_cons_succ, List.getElem?_cons_zero]; rfl) (by kernel_rfl) (by kernel_rfl) (by kernel_rfl) (by exact fun _ _ _ h => h) (Or.inl ⟨by rfl, ?h3⟩) (by assumption) ?_
          case h3 => (intro W hSw; (try dsimp only at hSw); go_simp; try with_reducible rfl)
          try simp only [Act.put, List.setIfInBounds_toArray, List.set_cons_zero, List.set_cons_succ]
          refine wpAnyH_take (i := 6) (v := ?v6) (by simp only [List.getElem?_toArray, List.getElem?_cons_succ, List.getElem?_cons_zero]; rfl) (by kernel_rfl) (by kernel_rfl) (by kernel_rfl) (by exact fun _ _ _ h => h) (Or.inl ⟨by rfl, ?h6⟩) (by assumption) ?_
          case h6 => (intro W hSw; (try dsimp only at hSw); go_simp; try with_reducible rfl)
          try simp only [Act.put, List.setIfInBounds_toArray, List.set_cons_zero, List.set_cons_succ]
          refine wpAnyH_take (i := 7) (v := ?v7) (by simp only [List.getElem?_toArray, List.getElem?_cons_succ, List.getElem?_cons_zero]; rfl) (by kernel_rfl) (by kernel_rfl) (by kernel_rfl) (by exact fun _ _ _ h => h) (Or.inl ⟨by rfl, ?h7⟩) (by assumption) ?_
          case h7 => (intro W hSw; (try dsimp only at hSw); go_simp; try with_reducible rfl)
          try simp only [Act.put, List.setIfInBounds_toArray, List.set_cons_zero, List.set_cons_succ]
          refine wpAnyH_take (i := 8) (v := ?v8) (by simp only [List.getElem?_toArray, List.getElem?_cons_succ, List.getElem?_cons_zero]; rfl) (by kernel_rfl) (by kernel_rfl) (by kernel_rfl) (by exact fun _ _ _ h => h) (Or.inl ⟨by rfl, ?h8⟩) (by assumption) ?_
          case h8 => (intro W hSw; (try dsimp only at hSw); go_simp; try with_reducible rfl)
          try simp only [Act.put, List.setIfInBounds_toArray, List.set_cons_zero, List.set_cons_succ]
          refine wpAnyH_take (i := 9) (v := ?v9) (by simp only [List.getElem?_toArray, List.getElem?_cons_succ, List.getElem?_cons_zero]; rfl) (by kernel_rfl) (by kernel_rfl) (by kernel_rfl) (by exact fun _ _ _ h => h) (Or.inl ⟨by rfl, ?h9⟩) (by assumption) ?_
          case h9 => (intro W hSw; (try dsimp only at hSw); go_simp; try with_reducible rfl)
          try simp only [Act.put, List.setIfInBounds_toArray, List.set_cons_zero, List.set_cons_succ]
          refine wpAnyH_ready (rs := [4]) (by kernel_rfl) (by simp) ?_
          refine AllReadyH.cons (by simp only [List.getElem?_toArray, List.getElem?_cons_succ, List.getElem?_cons_zero]; rfl) (fun K hK => ?_) AllReadyH.nil
          go_simp
          refine (CX.out _).mono ?_
          rintro e w3 ⟨rfl, rfl⟩
          have hS4 := hHeld
          refine hK _ _ hS4 (fun hH4 => ?_)
          clear hK K
          try simp only [Act.put, List.setIfInBounds_toArray, List.set_cons_zero, List.set_cons_succ]
          refine wpAnyH_take (i := 5) (v := ?v5) (by simp only [List.getElem?_toArray, List.getElem?_cons_succ, List.getElem?_cons_zero]; rfl) (by kernel_rfl) (by kernel_rfl) (by kernel_rfl) (by exact fun _ _ _ h => h) (Or.inl ⟨by rfl, ?h5⟩) (by assumption) ?_
          case h5 => (intro W hSw; (try dsimp only at hSw); go_simp; try with_reducible rfl)
          try simp only [Act.put, List.setIfInBounds_toArray, List.set_cons_zero, List.set_cons_succ]
          refine wpAnyH_ready (rs := [10]) (by kernel_rfl) (by simp) ?_
          refine AllReadyH.cons (by simp only [List.getElem?_toArray, List.getElem?_cons_succ, List.getElem?_cons_zero]; rfl) (fun K hK => ?_) AllReadyH.nil
          go_simp
          refine (CY.out _).mono ?_
          rintro e w4 ⟨rfl, rfl⟩
          have hS10 := hS4
          refine hK _ _ hS10 (fun hH10 => ?_)
          clear hK K
          try simp only [Act.put, List.setIfInBounds_toArray, List.set_cons_zero, List.set_cons_succ]
          refine wpAnyH_take (i := 11) (v := ?v11) (by simp only [List.getElem?_toArray, List.getElem?_cons_succ, List.getElem?_cons_zero]; rfl) (by kernel_rfl) (by kernel_rfl) (by kernel_rfl) (by exact fun _ _ _ h => h) (Or.inl ⟨by rfl, ?h11⟩) (by assumption) ?_
          case h11 => (intro W hSw; (try dsimp only at hSw); go_simp; try with_reducible rfl)
          try simp only [Act.put, List.setIfInBounds_toArray, List.set_cons_zero, List.set_cons_succ]
          refine wpAnyH_ready (rs := [12]) (by kernel_rfl) (by simp) ?_
          refine AllReadyH.cons (by simp only [List.getElem?_toArray, List.getElem?_cons_succ, List.getElem?_cons_zero]; rfl) (fun K hK => ?_) AllReadyH.nil
          go_simp
          have hS12 : Below W0.heap.size W0 (wr.drew.alloc (.cells #[.int .u8 (z : Int)] 5)) := hS10.alloc hS10.size _
          refine hK _ _ hS12 (fun hH12 => ?_)
          clear hK K
          try simp only [Act.put, List.setIfInBounds_toArray, List.set_cons_zero, List.set_cons_succ]
          refine wpAnyH_ready (rs := [13]) (by kernel_rfl) (by simp) ?_
          refine AllReadyH.cons (by simp only [List.getElem?_toArray, List.getElem?_cons_succ, List.getElem?_cons_zero]; rfl) (fun K hK => ?_) AllReadyH.nil
          refine step_app (by rfl) (.tmp 25) (.tmp 37) rfl Tryd.underlying24 infoU8 W0.heap.size _ _ [zb] rfl ((show OwnB wr.drew W0.heap.size _ _ from O.out).alloc _) _ _ _ _ rfl (HasB.one wr.drew (z : Int) zb 5 (by rw [HZ.out])) (by have := HLL.out; simp only [List.length_singleton]; omega) hS12.size ?_
          intro A5 n5 c5 w5 hown5 hb5
          have hS13 : Below W0.heap.size W0 w5 := hS12.trans hb5
          refine hK _ _ hS13 (fun hH13 => ?_)
          clear hK K
          try simp only [Act.put, List.setIfInBounds_toArray, List.set_cons_zero, List.set_cons_succ]
          refine wpAnyH_take (i := 14) (v := ?v14) (by simp only [List.getElem?_toArray, List.getElem?_cons_succ, List.getElem?_cons_zero]; rfl) (by kernel_rfl) (by kernel_rfl) (by kernel_rfl) (by exact fun _ _ _ h => h) (Or.inl ⟨by rfl, ?h14⟩) (by assumption) ?_
          case h14 => (intro W hSw; (try dsimp only at hSw); go_simp; try with_reducible rfl)
          try simp only [Act.put, List.setIfInBounds_toArray, List.set_cons_zero, List.set_cons_succ]
          refine wpAnyH_done (by kernel_rfl) ?_ _
          have hown6 : OwnB w5 W0.heap.size (.slice A5 n5 c5) (unhL (l.take (k + 2))) := by
            rw [HNX.out]
            exact hown5
          go_wp2_with fail
          go_roundw
          case rel => exact ⟨A5, n5, c5, k + 2, rfl, by omega, by omega, by go_num, hown6, hS13⟩
          case measure => simp [intOf]; omega
        · obtain rfl : k = n := by omega
          rw [List.take_of_length_le (by rw [HN.out]; exact Nat.le_refl _)] at hown
          have O := Lib.hid hown
          have BR := Lib.hid hbel
          clear hown hbel
          go_wp2_with fail
          go_ret2
          rw [HR.out, HE.out]
          exact ⟨A', n', c', rfl, O.out, BR.out⟩

set_option maxRecDepth 100000 in
set_option maxHeartbeats 1000000 in
theorem id_any (l : List UInt8) (w : World) (hl : l.length ≤ 1073741824) :
    Calls Tryd.prog 13 #[.string ⟨l.toArray⟩] w (RetIDE w (idL l) (idE l)) := by
  have CU := unhex_any l (w.alloc (.cells (cellsB (zer 32)).toArray 29)) hl
  have hIV := id_iv (zer 32) (by simp [zer])
  have hHZ := id_hz (zer 32) (by simp [zer])
  have IV := Lib.hid hIV
  have IZ := Lib.hid hHZ
  clear hIV hHZ
  by_cases hbad : unhE l = 0
  · by_cases hlen : (unhL l).length = 32
    · have hE : idE l = 0 := by unfold idE; rw [if_pos hbad, if_pos hlen]
      have hL : idL l = unhL l := by unfold idL; rw [if_pos hE]
      have hR : unhR l = unhL l := by unfold unhR; rw [if_pos hbad]
      rw [hE, hL]
      rw [hR, hbad] at CU
      obtain ⟨L, hLL⟩ : ∃ L, unhL l = L := ⟨_, rfl⟩
      rw [hLL] at CU hlen ⊢
      have HC := Lib.hid CU
      have IL := Lib.hid (id_iv L hlen)
      have LZ := Lib.hid (id_hz L hlen)
      have HLN := Lib.hid hlen
      clear CU hbad hlen hE hL hR hLL
      go_enter Tryd.func13, Tryd.ntmps13
      go_upto_region 6 with (first
        | (go_at_call 11; refine HC.out.mono ?_; rintro e w1 ⟨A1, n1, c1, rfl, hown1, hb1⟩
           have hn1 := hown1.len
           rw [HLN.out] at hn1
           subst hn1
           obtain ⟨g, rfl, hg, hglt, _⟩ := hown1.head (by omega)
           have LD := Lib.hid hown1.load_id
           have Z1 := Lib.hid ((Bw.new w (zer 32) 29).below hb1 (by simp))
           have B1 := Lib.hid (((Below.refl w.heap.size w).alloc (Nat.le_refl _) _).trans (hb1.mono (by simp)))
           have hc1 := hown1.caps.1
           clear hown1 hb1))
      go_wp2_with (first
        | (refine wpList_arrayAt rfl 29 _ 32 (.tmp 19) rfl Tryd.underlying29 _ _ _ rfl (Nat.le_refl _) ?_)
        | (refine wpList_load_rowG rfl 29 (.tmp 20) rfl g rfl _ LD.out ?_)
        | (refine wpList_store_row rfl 29 (.tmp 2) (.tmp 21) rfl w.heap.size (cellsB L).toArray rfl rfl 29 _ Z1.out IL.out LZ.out (cellsB_ones _) ?_))
      refine bodyPost_ret (v := .tuple #[.agg (cellsB L).toArray, .int .i64 0]) ?_ (by rfl) ?_
      · exact results_cell_row2 (p := 2) (u := 3) (ty := 29) rfl _ _ w.heap.size 29 (cellsB L).toArray _ _ rfl (setRow_heap _ _ _ _ 29 _ Z1.out) Tryd.underlying29 rfl IL.out _ rfl
      · exact ⟨rfl, below_setRow B1.out (Nat.le_refl _) _⟩
    · have hE : idE l = 9 := by unfold idE; rw [if_pos hbad, if_neg hlen]
      have hL := idE_bad l (by rw [hE]; decide)
      have hR : unhR l = unhL l := by unfold unhR; rw [if_pos hbad]
      rw [hE, hL]
      rw [hR, hbad] at CU
      obtain ⟨L, hLL⟩ : ∃ L, unhL l = L := ⟨_, rfl⟩
      rw [hLL] at CU hlen
      have HC := Lib.hid CU
      have HLN := Lib.hid hlen
      clear CU hbad hlen hE hL hR hLL
      go_enter Tryd.func13, Tryd.ntmps13
      go_wp2_with (first
        | (go_at_call 11; refine HC.out.mono ?_; rintro e w1 ⟨A1, n1, c1, rfl, hown1, hb1⟩
           have hn1 := hown1.len
           have hn32 : ¬ (n1 = 32) := by have := HLN.out; omega
           have hn33 : ¬ ((n1 : Int) = 32) := by omega
           have Z1 := Lib.hid ((Bw.new w (zer 32) 29).below hb1 (by simp))
           have B1 := Lib.hid (((Below.refl w.heap.size w).alloc (Nat.le_refl _) _).trans (hb1.mono (by simp)))
           have hc1 := hown1.caps.1
           clear hown1 hb1 hn1)
        | (refine wpList_buildG rfl 29 rfl (cellsB (zer 32)).toArray builtID ?_)
        | (refine wpList_store_row rfl 29 (.tmp 2) (.tmp 18) rfl w.heap.size (cellsB (zer 32)).toArray rfl rfl 29 _ Z1.out IV.out rfl (cellsB_ones _) ?_))
      refine bodyPost_ret (v := .tuple #[.agg (cellsB (zer 32)).toArray, .int .i64 9]) ?_ (by rfl) ?_
      · exact results_cell_row2 (p := 2) (u := 3) (ty := 29) rfl _ _ w.heap.size 29 (cellsB (zer 32)).toArray _ _ rfl (setRow_heap _ _ _ _ 29 _ Z1.out) Tryd.underlying29 rfl IV.out _ rfl
      · exact ⟨rfl, below_setRow B1.out (Nat.le_refl _) _⟩
  · have hu : unhE l = 4 := by unfold unhE at hbad ⊢; split at hbad; · exact absurd rfl hbad
                               · rename_i h; rw [if_neg h]
    have hE : idE l = 4 := by unfold idE; rw [if_neg hbad]
    have hL := idE_bad l (by rw [hE]; decide)
    rw [hE, hL]
    rw [hu] at CU
    have HC := Lib.hid CU
    clear CU hbad hE hL hu
    go_enter Tryd.func13, Tryd.ntmps13
    go_wp2_with (first
      | (go_at_call 11; refine HC.out.mono ?_; rintro e w1 ⟨A1, n1, c1, rfl, hown1, hb1⟩
         have Z1 := Lib.hid ((Bw.new w (zer 32) 29).below hb1 (by simp))
         have B1 := Lib.hid (((Below.refl w.heap.size w).alloc (Nat.le_refl _) _).trans (hb1.mono (by simp)))
         clear hown1 hb1)
      | (refine wpList_buildG rfl 29 rfl (cellsB (zer 32)).toArray builtID ?_)
      | (refine wpList_store_row rfl 29 (.tmp 2) (.tmp 13) rfl w.heap.size (cellsB (zer 32)).toArray rfl rfl 29 _ Z1.out IV.out rfl (cellsB_ones _) ?_))
    refine bodyPost_ret (v := .tuple #[.agg (cellsB (zer 32)).toArray, .int .i64 4]) ?_ (by rfl) ?_
    · exact results_cell_row2 (p := 2) (u := 3) (ty := 29) rfl _ _ w.heap.size 29 (cellsB (zer 32)).toArray _ _ rfl (setRow_heap _ _ _ _ 29 _ Z1.out) Tryd.underlying29 rfl IV.out _ rfl
    · exact ⟨rfl, below_setRow B1.out (Nat.le_refl _) _⟩
end Go.Proofs.YtbnlkagiliimkaaDoor
