/-
  Own work. The contract of the document's answer to mac's Of.
-/
import Derived.Test.YtkpmfpbeidhcbaaRr
import Derived.Test.YtkpmfpbeidhcbaaMo
import Derived.Test.YtkpmfpbeidhcbaaSp
namespace Go.Proofs.Ytkpmfpbeidhcbaa
open Go.RowKit
set_option linter.unusedVariables false
set_option linter.unusedSimpArgs false

set_option maxRecDepth 100000 in
set_option maxHeartbeats 1000000 in
theorem rmof_any (A B : Option Addr) (n c m d : Nat) (q : List UInt8) (ls : List (List UInt8)) (w : World) (h : HasB w w.heap.size A n q) (hb : HasBB w w.heap.size B m ls) (hn : n ≤ 536870912) (hm : m ≤ 8192) (hf : ls.flatten.length ≤ 268435456) :
    Calls Try.prog 14 #[.slice A n c, .slice B m d] w (RetID w (macS q (lens ls).flatten)) := by
  have hml := hb.1
  have hfl := lens_flat ls
  have ho := macS_len q (lens ls).flatten
  have HA := Lib.hid h
  have HS := Lib.hid hb
  have HM := Lib.hid hml
  have HFL := Lib.hid hfl
  have HF := Lib.hid hf
  have IO := Lib.hid (id_iv _ ho)
  have OZ := Lib.hid (id_hz _ ho)
  clear h hb hml hfl hf ho
  go_enter Try.func14, Try.ntmps14
  go_upto_region 1 with fail
  generalize hW0 : World.alloc _ _ = W0
  have hb0 : Below w.heap.size w W0 := by rw [← hW0]; exact (Below.refl _ _).alloc (Nat.le_refl _) _
  have hz0 : Bw W0 w.heap.size 30 (zer 32) := by rw [← hW0]; exact Bw.new w (zer 32) _
  have BW := Lib.hid hb0
  have WB := Lib.hid hb0.size
  have HZ0 := Lib.hid hz0
  clear hb0 hz0 hW0
  go_wp2_with fail
  go_loopw [5, 6] (fun s i wr => ∃ (A' : Option Addr) (n' c' k : Nat), s = .slice A' n' c' ∧ k ≤ m ∧ i = .int .i64 (k : Int) ∧ OwnB wr W0.heap.size (.slice A' n' c') ((lens ls).take k).flatten ∧ Below W0.heap.size W0 wr) (fun _ i _ => m - (intOf i).toNat)
  case atStart => exact ⟨none, 0, 0, 0, rfl, by omega, rfl, OwnB.nil _ _, Below.refl _ _⟩
  case round =>
    obtain ⟨A', n', c', k, rfl, hk, rfl, hown, hbel⟩ := hrel
    by_cases hlt : k < m
    · obtain ⟨l, hl⟩ : ∃ l, ls[k]? = some l := ⟨_, List.getElem?_eq_getElem (by rw [← HM.out]; exact hlt)⟩
      obtain ⟨k0, o0, rfl, hk0, hc0⟩ := HS.out.2 (by omega)
      obtain ⟨Ai, ni, ci, hcell, hni, hhas⟩ := hc0 k l hl
      have hnl := hhas.len
      have hsn := flat_snoc (lens ls) k _ (lens_at hl)
      rw [← hnl] at hsn
      have hll : ((lens ls).take k).flatten.length + (8 + ni) ≤ 1073741824 := by
        have h1 := flat_len (lens ls) (k + 1)
        have h2 := HFL.out
        have h3 := HF.out
        have h4 := HM.out
        rw [hsn, List.length_append, List.length_append, be_length] at h1
        omega
      have ld : ∀ W, Below w.heap.size w W → (loadVar 22 ⟨k0, o0 + k, none⟩).run Try.prog W = .ok (.slice Ai ni ci) W := fun W hW => load_slice ((hW.cell (p := ⟨k0, o0 + k, none⟩) hk0).trans hcell)
      have C8 := Lib.hid (fun W => eight_any ni W (by omega))
      have LD := Lib.hid ld
      have HNL := Lib.hid hnl
      have HH := Lib.hid hhas
      have HSN := Lib.hid hsn
      have HLL := Lib.hid hll
      have O := Lib.hid hown
      have OB := Lib.hid hbel.size
      have B0 := Lib.hid (BW.out.trans (hbel.mono BW.out.size))
      have BR := Lib.hid hbel
      have hni9 : ni ≤ 1073741824 := by omega
      have hwu : IntKind.u64.wrap (ni : Int) = (ni : Int) := by rw [IntKind.wrap_u64]; omega
      clear hl hc0 hcell hhas hsn hll hnl hown hbel ld
      go_wp2_with fail
      refine wp_region_held_drew (S := fun W => Below w.heap.size w W) (by kernel_rfl) B0.out.drew (fun hHeld => ?_)
      refine wpAnyH_take (i := 0) (v := ?v0p) (by simp only [List.getElem?_toArray, List.getElem?_cons_succ, List.getElem?_cons_zero]; rfl) (by kernel_rfl) (by kernel_rfl) (by kernel_rfl) (by exact fun _ _ _ h => h) (Or.inl ⟨by rfl, ?h0p⟩) (by assumption) ?_
      case h0p => (intro W hSw; (try dsimp only at hSw); go_simp; try with_reducible rfl)
      try simp only [Act.put, List.setIfInBounds_toArray, List.set_cons_zero, List.set_cons_succ]
      refine wpAnyH_take (i := 1) (v := ?v1p) (by simp only [List.getElem?_toArray, List.getElem?_cons_succ, List.getElem?_cons_zero]; rfl) (by kernel_rfl) (by kernel_rfl) (by kernel_rfl) (by exact fun _ _ _ h => h) (Or.inl ⟨by rfl, ?h1p⟩) (by assumption) ?_
      case h1p => (intro W hSw; (try dsimp only at hSw); go_simp; try with_reducible rfl)
      try simp only [Act.put, List.setIfInBounds_toArray, List.set_cons_zero, List.set_cons_succ]
      refine wpAnyH_take (i := 2) (v := ?v2p) (by simp only [List.getElem?_toArray, List.getElem?_cons_succ, List.getElem?_cons_zero]; rfl) (by kernel_rfl) (by kernel_rfl) (by kernel_rfl) (by exact fun _ _ _ h => h) (Or.inl ⟨by rfl, ?h2p⟩) (by assumption) ?_
      case h2p => (intro W hSw; (try dsimp only at hSw); go_simp; try with_reducible rfl)
      try simp only [Act.put, List.setIfInBounds_toArray, List.set_cons_zero, List.set_cons_succ]
      refine wpAnyH_take (i := 3) (v := ?v3p) (by simp only [List.getElem?_toArray, List.getElem?_cons_succ, List.getElem?_cons_zero]; rfl) (by kernel_rfl) (by kernel_rfl) (by kernel_rfl) (by exact fun _ _ _ h => h) (Or.inl ⟨by rfl, ?h3p⟩) (by assumption) ?_
      case h3p => (intro W hSw; (try dsimp only at hSw); go_simp; try with_reducible rfl)
      try simp only [Act.put, List.setIfInBounds_toArray, List.set_cons_zero, List.set_cons_succ]
      refine wpAnyH_take (i := 4) (by simp only [List.getElem?_toArray, List.getElem?_cons_succ, List.getElem?_cons_zero]; rfl) (by kernel_rfl) (by kernel_rfl) (by kernel_rfl) (by exact fun _ _ _ h => h) (yieldsIf_loadG (by rfl) 22 (.tmp 16) rfl ⟨k0, o0 + k, none⟩ rfl (.slice Ai ni ci) (fun W hW => LD.out W hW)) (by assumption) ?_
      try simp only [Act.put, List.setIfInBounds_toArray, List.set_cons_zero, List.set_cons_succ]
      refine wpAnyH_take (i := 5) (v := ?v5p) (by simp only [List.getElem?_toArray, List.getElem?_cons_succ, List.getElem?_cons_zero]; rfl) (by kernel_rfl) (by kernel_rfl) (by kernel_rfl) (by exact fun _ _ _ h => h) (Or.inl ⟨by rfl, ?h5p⟩) (by assumption) ?_
      case h5p => (intro W hSw; (try dsimp only at hSw); go_simp; try with_reducible rfl)
      try simp only [Act.put, List.setIfInBounds_toArray, List.set_cons_zero, List.set_cons_succ]
      refine wpAnyH_take (i := 6) (v := ?v6p) (by simp only [List.getElem?_toArray, List.getElem?_cons_succ, List.getElem?_cons_zero]; rfl) (by kernel_rfl) (by kernel_rfl) (by kernel_rfl) (by exact fun _ _ _ h => h) (Or.inl ⟨by rfl, ?h6p⟩) (by assumption) ?_
      case h6p => (intro W hSw; (try dsimp only at hSw); go_simp; try with_reducible rfl)
      try simp only [Act.put, List.setIfInBounds_toArray, List.set_cons_zero, List.set_cons_succ]
      refine wpAnyH_take (i := 9) (v := ?v9p) (by simp only [List.getElem?_toArray, List.getElem?_cons_succ, List.getElem?_cons_zero]; rfl) (by kernel_rfl) (by kernel_rfl) (by kernel_rfl) (by exact fun _ _ _ h => h) (Or.inl ⟨by rfl, ?h9p⟩) (by assumption) ?_
      case h9p => (intro W hSw; (try dsimp only at hSw); go_simp; try with_reducible rfl)
      try simp only [Act.put, List.setIfInBounds_toArray, List.set_cons_zero, List.set_cons_succ]
      refine wpAnyH_take (i := 10) (v := ?v10p) (by simp only [List.getElem?_toArray, List.getElem?_cons_succ, List.getElem?_cons_zero]; rfl) (by kernel_rfl) (by kernel_rfl) (by kernel_rfl) (by exact fun _ _ _ h => h) (Or.inl ⟨by rfl, ?h10p⟩) (by assumption) ?_
      case h10p => (intro W hSw; (try dsimp only at hSw); go_simp; try with_reducible rfl)
      try simp only [Act.put, List.setIfInBounds_toArray, List.set_cons_zero, List.set_cons_succ]
      refine wpAnyH_take (i := 11) (v := ?v11p) (by simp only [List.getElem?_toArray, List.getElem?_cons_succ, List.getElem?_cons_zero]; rfl) (by kernel_rfl) (by kernel_rfl) (by kernel_rfl) (by exact fun _ _ _ h => h) (Or.inl ⟨by rfl, ?h11p⟩) (by assumption) ?_
      case h11p => (intro W hSw; (try dsimp only at hSw); go_simp; try with_reducible rfl)
      try simp only [Act.put, List.setIfInBounds_toArray, List.set_cons_zero, List.set_cons_succ]
      refine wpAnyH_take (i := 12) (by simp only [List.getElem?_toArray, List.getElem?_cons_succ, List.getElem?_cons_zero]; rfl) (by kernel_rfl) (by kernel_rfl) (by kernel_rfl) (by exact fun _ _ _ h => h) (yieldsIf_loadG (by rfl) 22 (.tmp 24) rfl ⟨k0, o0 + k, none⟩ rfl (.slice Ai ni ci) (fun W hW => LD.out W hW)) (by assumption) ?_
      try simp only [Act.put, List.setIfInBounds_toArray, List.set_cons_zero, List.set_cons_succ]
      refine wpAnyH_ready (rs := [7]) (by kernel_rfl) (by simp) ?_
      refine AllReadyH.cons (by simp only [List.getElem?_toArray, List.getElem?_cons_succ, List.getElem?_cons_zero]; rfl) (fun K hK => ?_) AllReadyH.nil
      go_simp
      refine (C8.out _).mono ?_
      rintro e w3 ⟨A8, n8, c8, rfl, hown8, hb3⟩
      have O3 := Lib.hid ((show OwnB wr.drew W0.heap.size _ _ from O.out).below hb3)
      have hq3 := hb3.size
      have hS7 : Below w.heap.size w w3 := hHeld.trans (hb3.mono hHeld.size)
      refine hK _ _ hS7 (fun hH7 => ?_)
      clear hK K
      try simp only [Act.put, List.setIfInBounds_toArray, List.set_cons_zero, List.set_cons_succ]
      have O3base : Hid (W0.heap.size ≤ w3.heap.size) := Lib.hid (by have := OB.out; simp only [World.drew] at hq3; omega)
      refine wpAnyH_ready (rs := [8]) (by kernel_rfl) (by simp) ?_
      refine AllReadyH.cons (by simp only [List.getElem?_toArray, List.getElem?_cons_succ, List.getElem?_cons_zero]; rfl) (fun K hK => ?_) AllReadyH.nil
      refine step_app (by rfl) (.tmp 13) (.tmp 20) rfl Try.underlying22 infoU8 W0.heap.size _ _ _ rfl O3.out _ _ _ _ rfl hown8.has (by have := HLL.out; rw [be_length]; omega) (by have := O3base.out; omega) ?_
      intro A4 n4 c4 w4 hown4 hb4
      have hS8 : Below w.heap.size w w4 := hS7.trans (hb4.mono WB.out)
      refine hK _ _ hS8 (fun hH8 => ?_)
      clear hK K
      try simp only [Act.put, List.setIfInBounds_toArray, List.set_cons_zero, List.set_cons_succ]
      have O3base : Hid (W0.heap.size ≤ w4.heap.size) := Lib.hid (by have := O3base.out; have := hb4.size; omega)
      refine wpAnyH_ready (rs := [13]) (by kernel_rfl) (by simp) ?_
      refine AllReadyH.cons (by simp only [List.getElem?_toArray, List.getElem?_cons_succ, List.getElem?_cons_zero]; rfl) (fun K hK => ?_) AllReadyH.nil
      refine step_app (by rfl) (.tmp 21) (.tmp 25) rfl Try.underlying22 infoU8 W0.heap.size _ _ _ rfl hown4 _ _ _ _ rfl (HH.out.below hS8) (by have := HLL.out; have := HNL.out; rw [List.length_append, be_length]; omega) (by have := O3base.out; omega) ?_
      intro A5 n5 c5 w5 hown5 hb5
      have hS13 : Below w.heap.size w w5 := hS8.trans (hb5.mono WB.out)
      refine hK _ _ hS13 (fun hH13 => ?_)
      clear hK K
      try simp only [Act.put, List.setIfInBounds_toArray, List.set_cons_zero, List.set_cons_succ]
      refine wpAnyH_take (i := 14) (v := ?v14p) (by simp only [List.getElem?_toArray, List.getElem?_cons_succ, List.getElem?_cons_zero]; rfl) (by kernel_rfl) (by kernel_rfl) (by kernel_rfl) (by exact fun _ _ _ h => h) (Or.inl ⟨by rfl, ?h14p⟩) (by assumption) ?_
      case h14p => (intro W hSw; (try dsimp only at hSw); go_simp; try with_reducible rfl)
      try simp only [Act.put, List.setIfInBounds_toArray, List.set_cons_zero, List.set_cons_succ]
      refine wpAnyH_done (by kernel_rfl) ?_ _
      have hown6 : OwnB w5 W0.heap.size (.slice A5 n5 c5) ((lens ls).take (k + 1)).flatten := by
        rw [HSN.out, ← List.append_assoc]
        exact hown5
      have hbel6 : Below W0.heap.size W0 w5 := (BR.out.drew.trans (hb3.mono OB.out)).trans (hb4.trans hb5)
      go_wp2_with fail
      go_roundw
      case rel => exact ⟨A5, n5, c5, k + 1, rfl, by omega, by go_num, hown6, hbel6⟩
      case measure => simp [intOf]; omega
    · obtain rfl : k = m := by omega
      rw [List.take_of_length_le (by rw [lens_len, ← HM.out]; exact Nat.le_refl _)] at hown
      have hn5 := hown.len
      have h2 := HFL.out
      have h3 := HF.out
      have h4 := HM.out
      have hbw := BW.out.trans (hbel.mono BW.out.size)
      have CR := rraw_any A A' n c n' c' q (lens ls).flatten wr (HA.out.on hbw) hown.has hn (by omega)
      have HCR := Lib.hid CR
      have BR := Lib.hid hbw
      have ZR := Lib.hid (HZ0.out.below hbel HZ0.out.lt)
      clear CR hbw hown hbel hn5 h2 h3 h4
      go_wp2_with (first
        | (go_at_call 16; refine HCR.out.mono ?_; rintro e w6 ⟨rfl, hb6⟩
           have B6 := Lib.hid (BR.out.trans (hb6.mono BR.out.size))
           have Z6 := Lib.hid (ZR.out.below hb6 ZR.out.lt)
           clear hb6)
        | (refine wpList_store_row rfl 30 (.tmp 4) (.tmp 29) rfl w.heap.size (cellsB (macS q (lens ls).flatten)).toArray rfl rfl 30 _ Z6.out IO.out OZ.out (cellsB_ones _) ?_))
      refine bodyPost_ret (v := .agg (cellsB (macS q (lens ls).flatten)).toArray) ?_ (by rfl) ?_
      · exact results_cell_row (p := 4) (ty := 30) rfl _ _ w.heap.size 30 (cellsB (macS q (lens ls).flatten)).toArray _ _ rfl (setRow_heap _ _ _ _ 30 _ Z6.out) Try.underlying30 rfl IO.out
      · exact ⟨rfl, below_setRow B6.out (Nat.le_refl _) _⟩
end Go.Proofs.Ytkpmfpbeidhcbaa
