/-
  Own work. The document's answer to frame: Take, where a frame may stand.
-/
import Derived.Test.YtadagbkfemcgfaaFr
namespace Go.Proofs.Ytadagbkfemcgfaa
open Go.RowKit
set_option linter.unusedVariables false
set_option linter.unusedSimpArgs false

theorem at_fN (l : List UInt8) (h : 46 ≤ l.length) : atV l 2 4 = fN l ∧ atE l 2 4 = 0 := by
  have : atE l 2 4 = 0 := by unfold atE; rw [if_pos (by omega), if_pos (by omega)]
  exact ⟨by unfold atV; rw [if_pos this]; rfl, this⟩
theorem ftake_of (l : List UInt8) : (l.length < 46 → ftake l = .no 3) ∧ (46 ≤ l.length → ¬ (l[0]? = some 199 ∧ l[1]? = some 70) → ftake l = .no 4) ∧
    (46 ≤ l.length → l[0]? = some 199 → l[1]? = some 70 → (4200 < fN l → ftake l = .no 2) ∧ (fN l ≤ 4200 → (l.length < 46 + fN l → ftake l = .no 3) ∧
      (46 + fN l ≤ l.length → (frS (fK l) (fB l) = fT l → ftake l = ⟨fK l, fB l, 46 + fN l, 0⟩) ∧ (¬ frS (fK l) (fB l) = fT l → ftake l = .no 11)))) := by
  refine ⟨fun h => if_pos h, fun h1 h2 => ?_, fun h1 h2 h3 => ⟨fun h4 => ?_, fun h4 => ⟨fun h5 => ?_, fun h5 => ⟨fun h6 => ?_, fun h6 => ?_⟩⟩⟩⟩
  · unfold ftake; rw [if_neg (by omega), if_pos h2]
  · unfold ftake; rw [if_neg (by omega), if_neg (fun q => q ⟨h2, h3⟩), if_pos h4]
  · unfold ftake; rw [if_neg (by omega), if_neg (fun q => q ⟨h2, h3⟩), if_neg (by omega), if_pos h5]
  · unfold ftake; rw [if_neg (by omega), if_neg (fun q => q ⟨h2, h3⟩), if_neg (by omega), if_neg (by omega), if_pos h6]
  · unfold ftake; rw [if_neg (by omega), if_neg (fun q => q ⟨h2, h3⟩), if_neg (by omega), if_neg (by omega), if_neg h6]
theorem byte_ne {b : UInt8} {k : Nat} (hk : k < 256) : b = UInt8.ofNat k ↔ b.toNat = k := by
  constructor
  · rintro rfl
    rw [UInt8.toNat_ofNat']
    omega
  · intro h
    apply UInt8.toNat_inj.1
    rw [UInt8.toNat_ofNat']
    omega

set_option maxRecDepth 100000 in
set_option maxHeartbeats 4000000 in
theorem rftake_fine (w : World) (g o n c : Nat) (l : List UInt8) (h : HasB w w.heap.size (some ⟨g, o, none⟩) n l) (hc : n ≤ c) (hcm : c ≤ 2 ^ 63 - 1) (hn : n ≤ 1073741824) (h46 : ¬ n < 46)
    (hb0 : l[0]? = some 199) (hb1 : l[1]? = some 70) (h4 : ¬ 4200 < fN l) (h5 : ¬ n < 46 + fN l) (hs : frS (fK l) (fB l) = fT l) (hcc : ¬ c = 46) :
    Calls Try.prog 17 #[.slice (some ⟨g, o, none⟩) n c] w (RetTk w (ftake l)) := by
  have hl := h.len
  have IV := Lib.hid (id_iv (zer 32) rfl)
  have hg : g < w.heap.size := by
    obtain ⟨g', o', e, hg, hcell⟩ := h.2 (by omega)
    simp only [Option.some.injEq, Addr.mk.injEq, and_true] at e
    obtain ⟨rfl, rfl⟩ := e
    exact hg
  have hc0 : w.cell? ⟨g, o, none⟩ = some (.int .u8 199) := by
    obtain ⟨g', o', e, _, hcell⟩ := h.2 (by omega)
    simp only [Option.some.injEq, Addr.mk.injEq, and_true] at e
    obtain ⟨rfl, rfl⟩ := e
    exact hcell 0 199 hb0
  have hc1 : w.cell? ⟨g, o + 1, none⟩ = some (.int .u8 70) := by
    obtain ⟨g', o', e, _, hcell⟩ := h.2 (by omega)
    simp only [Option.some.injEq, Addr.mk.injEq, and_true] at e
    obtain ⟨rfl, rfl⟩ := e
    exact hcell 1 70 hb1
  have C1 : Hid (∀ W, Below w.heap.size w W → Calls Try.prog 38 #[.slice (some ⟨g, o, none⟩) n c, .int .i64 2, .int .i64 4] W fun e w' => e = .returned (.tuple #[.int .u64 (fN l : Nat), .int .i64 0]) ∧ W = w') := Lib.hid (fun W hW => by
    have := rat_any (some ⟨g, o, none⟩) l n c 2 4 W (h.on hW) hn (by omega) (by omega)
    rwa [(at_fN l (by omega)).1, (at_fN l (by omega)).2] at this)
  have hfl := fN_lt l
  have hkl := fK_len l (by omega)
  have hbl := fB_len l (by omega)
  have hiff := fr_iff l hb0 hb1 (by omega)
  have hFl := frL_len (fK l) (fB l) hkl
  have hpe : fputE (fB l) = 0 := fputE_ok (by omega)
  have hpl : fputL (fK l) (fB l) = frL (fK l) (fB l) := fputL_ok (by omega)
  have hwin : ∀ W, HasB W W.heap.size (some ⟨g, o, none⟩) n l → HasB W W.heap.size (some ⟨g, o + 46, none⟩) (fN l) (fB l) := fun W hW => hW.window (k := 46) (s := fN l) (by omega) rfl (fun _ => rfl)
  have hpre : ∀ W, HasB W W.heap.size (some ⟨g, o, none⟩) n l → HasB W W.heap.size (some ⟨g, o, none⟩) (46 + fN l) (l.take (46 + fN l)) := fun W hW => by
    have := hW.window (k := 0) (s := 46 + fN l) (by omega) (A' := some ⟨g, o, none⟩) (m := 46 + fN l) rfl (fun _ => rfl)
    rwa [List.drop_zero] at this
  have hbelen := hbl
  rw [((((ftake_of l).2.2 (by omega) hb0 hb1).2 (by omega)).2 (by omega)).1 hs]
  have LDK : Hid (∀ W, HasB W W.heap.size (some ⟨g, o, none⟩) n l → (loadVar 23 ⟨g, o + 14, none⟩).run Try.prog W = .ok (.agg (cellsB (fK l)).toArray) W) := Lib.hid (fun W hW => hW.load_idAt (k := 14) (by omega))
  obtain ⟨N, hN⟩ : ∃ N, fN l = N := ⟨_, rfl⟩
  obtain ⟨K, hK⟩ : ∃ K, fK l = K := ⟨_, rfl⟩
  obtain ⟨V, hV⟩ : ∃ V, fB l = V := ⟨_, rfl⟩
  obtain ⟨F, hF⟩ : ∃ F, frL K V = F := ⟨_, rfl⟩
  obtain ⟨G, hG⟩ : ∃ G, l.take (46 + N) = G := ⟨_, rfl⟩
  rw [hK, hV, hF] at hFl
  rw [hK, hV, hF] at hpl
  rw [hV] at hpe hbl
  rw [hN] at hbl h4 h5 hfl
  rw [hK] at hkl LDK
  rw [hN, hK, hV, hF, hG] at hiff
  simp only [hN, hV] at hwin
  simp only [hN, hG] at hpre
  rw [hN] at C1
  rw [hK, hV, hN]
  have C2 : Hid (∀ W A' n' c', HasB W W.heap.size A' n' V → n' ≤ c' → n' ≤ 1073741824 → Calls Try.prog 11 #[.agg (cellsB K).toArray, .slice A' n' c'] W (RetBE W F 0)) := Lib.hid (fun W A' n' c' q1 q2 q3 => by
    have := rfput_any W A' n' c' K V q1 q2 q3 hkl
    rwa [hpe, hpl] at this)
  have LDK1 := LDK
  have WIN : Hid (∀ (W : World) (m : Nat), m = N → HasB W W.heap.size (some ⟨g, o, none⟩) n l → HasB W W.heap.size (some ⟨g, o + 46, none⟩) m V) := Lib.hid (fun W m hm hW => by rw [hm]; exact hwin W hW)
  have PRE := Lib.hid hpre
  have IK := Lib.hid (id_iv K hkl)
  have KZ := Lib.hid (id_hz K hkl)
  have FL : Hid (F.length = 46 + N) := Lib.hid (by omega)
  have VL := Lib.hid hbl
  have HB := Lib.hid h
  have KL := Lib.hid hkl
  have hFG : F = G := hiff.2 (by rw [← hK, ← hV]; exact hs)
  have DFG : Hid (decide (F ≠ G) = false) := Lib.hid (by simp [hFG])
  clear hN hK hV hF hG hFl hpl hpe hbl hbelen hkl hiff hwin hpre LDK hFG h hl hb0 hb1 hs
  go_enter Try.func17, Try.ntmps17
  go_upto_region 1 with fail
  generalize hW1 : World.alloc _ _ = W1
  have hb1 : Below w.heap.size w W1 := by rw [← hW1]; exact (Below.refl _ w).alloc (Nat.le_refl _) _
  have hz1 : Bw W1 w.heap.size 23 (zer 32) := by rw [← hW1]; exact Bw.new w (zer 32) _
  have c0 : W1.cell? ⟨g, o, none⟩ = some (.int .u8 199) := (hb1.cell (p := ⟨g, o, none⟩) hg).trans hc0
  have c1 : W1.cell? ⟨g, o + 1, none⟩ = some (.int .u8 70) := (hb1.cell (p := ⟨g, o + 1, none⟩) hg).trans hc1
  have C1' := Lib.hid (C1.out W1 hb1)
  have LD1 := Lib.hid (LDK1.out W1 (HB.out.on hb1))
  have B1 := Lib.hid hb1
  have Z1 := Lib.hid hz1
  clear hb1 hz1 hW1 hc0 hc1 C1 LDK1
  go_upto_region 10 with (first
    | (go_at_call 38; refine C1'.out.mono ?_; rintro e w1 ⟨rfl, rfl⟩))
  go_upto_region 11 with (first
    | (refine wpList_arrayAt rfl 23 _ 32 (.tmp 43) rfl Try.underlying23 _ _ _ rfl (Nat.le_refl _) ?_)
    | (refine wpList_load_at rfl 23 (.tmp 44) rfl ⟨g, o + 14, none⟩ rfl _ LD1.out ?_)
    | (refine wpList_store_row rfl 23 (.tmp 8) (.tmp 45) rfl W1.heap.size (cellsB K).toArray rfl rfl 23 _ (Bw.new W1 (zer 32) 23) IK.out KZ.out (cellsB_ones _) ?_
       have hrow := box_below W1 K
       have hk2 := box_id W1 K
       generalize hW2 : World.setRow _ _ _ = W2
       rw [show (W1.alloc (.cells (cellsB (zer 32)).toArray 23)).setRow W1.heap.size (cellsB K).toArray = W2 from hW2] at hrow hk2
       have K2 := Lib.hid hk2
       have Z2 := Lib.hid (Z1.out.below hrow Z1.out.lt)
       have B2 := Lib.hid (B1.out.trans (hrow.mono B1.out.size))
       clear hrow hk2 hW2))
  go_upto_region 12 with (first
    | (at_builtin; refine wp_app rfl (.tmp 46) (.tmp 51) rfl Try.underlying24 infoU8 W2.heap.size _ [] V rfl (OwnB.empty W2) _ _ _ _ rfl (WIN.out _ _ (by omega) (HB.out.on (B2.out.alloc B2.out.size _))) (by have := VL.out; simp; omega) (by simp) ?_; intro A3 n3 c3 W3 hown3 hg3 hb3
       rw [List.nil_append] at hown3
       have hb3' : Below W2.heap.size W2 W3 := ((Below.refl _ W2).alloc (Nat.le_refl _) _).trans hb3
       have hn3 := hown3.len
       have hc3 := hown3.caps
       have O3 := Lib.hid hown3
       have K3 := Lib.hid (K2.out.below hb3' K2.out.lt)
       have Z3 := Lib.hid (Z2.out.below hb3' Z2.out.lt)
       have B3 := Lib.hid (B2.out.trans (hb3'.mono B2.out.size))
       have hn3' : n3 ≤ 4200 := by have := VL.out; omega
       clear hown3 hg3 hb3 hb3' hn3))
  go_upto_region 13 with (first
    | (refine wpList_load_rowG rfl 23 (.tmp 8) rfl W1.heap.size rfl (.agg (cellsB K).toArray) (K3.out.load KL.out) ?_)
    | (go_at_call 11; refine (C2.out _ _ _ _ O3.out.has hc3.1 (by omega)).mono ?_; rintro e W4 ⟨A4, n4, c4, rfl, o4, b4⟩
       have hn4 := o4.len
       have n46 : n4 = 46 + N := by have := FL.out; omega
       have n4c : n4 ≤ c := by omega
       have N46 := Lib.hid n46
       have hb4 := B3.out.trans (b4.mono B3.out.size)
       have K5 : Hid (∀ W, Below W4.heap.size W4 W → (convert 24 9 (.slice A4 n4 c4)).run Try.prog W = .ok (.string ⟨F.toArray⟩) W) := Lib.hid (fun W hW => run_conv (P := Try.prog) Try.underlying24 Try.underlying5 Try.underlying9 _ A4 n4 c4 F (o4.has.on hW))
       have K6 : Hid (∀ W, Below W4.heap.size W4 W → (convert 24 9 (.slice (some ⟨g, o, none⟩) n4 c)).run Try.prog W = .ok (.string ⟨G.toArray⟩) W) := Lib.hid (fun W hW => run_conv (P := Try.prog) Try.underlying24 Try.underlying5 Try.underlying9 _ (some ⟨g, o, none⟩) n4 c G (by rw [N46.out]; exact PRE.out W (HB.out.on (hb4.trans (hW.mono hb4.size)))))
       have K4 := Lib.hid (K3.out.below b4 K3.out.lt)
       have Z4 := Lib.hid (Z3.out.below b4 Z3.out.lt)
       have O4 := Lib.hid (O3.out.below b4)
       have B4 := Lib.hid hb4
       clear o4 b4 hb4 hn4 n46))
  refine wp_region_held_drew (S := fun W => Below W4.heap.size W4 W) (by kernel_rfl) (Below.refl _ W4).drew (fun hHeld => ?_)
  refine wpAnyH_take (i := 0) (v := ?v0q) (by simp only [List.getElem?_toArray, List.getElem?_cons_succ, List.getElem?_cons_zero]; rfl) (by kernel_rfl) (by kernel_rfl) (by kernel_rfl) (by exact fun _ _ _ h => h) (Or.inl ⟨by rfl, ?h0q⟩) (by assumption) ?_
  case h0q => (intro W hSw; (try dsimp only at hSw); go_simp; try with_reducible rfl)
  try simp only [Act.put, List.setIfInBounds_toArray, List.set_cons_zero, List.set_cons_succ]
  refine wpAnyH_take (i := 1) (by simp only [List.getElem?_toArray, List.getElem?_cons_succ, List.getElem?_cons_zero]; rfl) (by kernel_rfl) (by kernel_rfl) (by kernel_rfl) (by exact fun _ _ _ h => h) (yieldsIf_conv (by rfl) 24 9 (.tmp 59) rfl (.slice A4 n4 c4) (.string ⟨F.toArray⟩) rfl (fun W hW => K5.out W hW)) (by assumption) ?_
  try simp only [Act.put, List.setIfInBounds_toArray, List.set_cons_zero, List.set_cons_succ]
  refine wpAnyH_take (i := 2) (v := ?v2q) (by simp only [List.getElem?_toArray, List.getElem?_cons_succ, List.getElem?_cons_zero]; rfl) (by kernel_rfl) (by kernel_rfl) (by kernel_rfl) (by exact fun _ _ _ h => h) (Or.inl ⟨by rfl, ?h2q⟩) (by assumption) ?_
  case h2q => (intro W hSw; (try dsimp only at hSw); go_simp; try with_reducible rfl)
  try simp only [Act.put, List.setIfInBounds_toArray, List.set_cons_zero, List.set_cons_succ]
  refine wpAnyH_take (i := 3) (v := ?v3q) (by simp only [List.getElem?_toArray, List.getElem?_cons_succ, List.getElem?_cons_zero]; rfl) (by kernel_rfl) (by kernel_rfl) (by kernel_rfl) (by exact fun _ _ _ h => h) (Or.inl ⟨by rfl, ?h3q⟩) (by assumption) ?_
  case h3q => (intro W hSw; (try dsimp only at hSw); go_simp; try with_reducible rfl)
  try simp only [Act.put, List.setIfInBounds_toArray, List.set_cons_zero, List.set_cons_succ]
  refine wpAnyH_take (i := 4) (v := ?v4q) (by simp only [List.getElem?_toArray, List.getElem?_cons_succ, List.getElem?_cons_zero]; rfl) (by kernel_rfl) (by kernel_rfl) (by kernel_rfl) (by exact fun _ _ _ h => h) (Or.inl ⟨by rfl, ?h4q⟩) (by assumption) ?_
  case h4q => (intro W hSw; (try dsimp only at hSw); go_simp; try with_reducible rfl)
  try simp only [Act.put, List.setIfInBounds_toArray, List.set_cons_zero, List.set_cons_succ]
  refine wpAnyH_take (i := 5) (v := .slice (some ⟨g, o, none⟩) n4 c) (by simp only [List.getElem?_toArray, List.getElem?_cons_succ, List.getElem?_cons_zero]; rfl) (by kernel_rfl) (by kernel_rfl) (by kernel_rfl) (by exact fun _ _ _ h => h) (Or.inl ⟨by rfl, ?h5q⟩) (by assumption) ?_
  case h5q => (intro W hSw; (try dsimp only at hSw); go_simp; try (first | (rw [if_pos (show n4 ≤ c from n4c)]; done) | (intro hbad; omega)))
  try simp only [Act.put, List.setIfInBounds_toArray, List.set_cons_zero, List.set_cons_succ]
  refine wpAnyH_take (i := 6) (by simp only [List.getElem?_toArray, List.getElem?_cons_succ, List.getElem?_cons_zero]; rfl) (by kernel_rfl) (by kernel_rfl) (by kernel_rfl) (by exact fun _ _ _ h => h) (yieldsIf_conv (by rfl) 24 9 (.tmp 64) rfl (.slice (some ⟨g, o, none⟩) n4 c) (.string ⟨G.toArray⟩) rfl (fun W hW => K6.out W hW)) (by assumption) ?_
  try simp only [Act.put, List.setIfInBounds_toArray, List.set_cons_zero, List.set_cons_succ]
  refine wpAnyH_take (i := 7) (by simp only [List.getElem?_toArray, List.getElem?_cons_succ, List.getElem?_cons_zero]; rfl) (by kernel_rfl) (by kernel_rfl) (by kernel_rfl) (by exact fun _ _ _ h => h) (yieldsIf_bin (by rfl) .neq 9 9 (.tmp 60) (.tmp 65) rfl (.string ⟨F.toArray⟩) (.string ⟨G.toArray⟩) (.bool false) rfl rfl (guard_neq_str _ _ _ _) (fun W => by rw [neq_str, DFG.out])) (by assumption) ?_
  try simp only [Act.put, List.setIfInBounds_toArray, List.set_cons_zero, List.set_cons_succ]
  refine wpAnyH_done (by kernel_rfl) ?_ _
  go_wp2_with (first
    | (refine wpList_load_rowG rfl 23 (.tmp 8) rfl W1.heap.size rfl (.agg (cellsB K).toArray) ((show Bw W4.drew W1.heap.size 23 K from K4.out).load KL.out) ?_)
    | (refine wpList_store_row rfl 23 (.tmp 2) (.tmp 68) rfl w.heap.size (cellsB K).toArray rfl rfl 23 _ (show Bw W4.drew w.heap.size 23 (zer 32) from Z4.out) IK.out KZ.out (cellsB_ones _) ?_))
  refine bodyPost_ret (v := .tuple #[.agg (cellsB K).toArray, .slice A3 n3 c3, .int .i64 (n4 : Int), .int .i64 0]) ?_ (by rfl) ?_
  · exact results_cell_row4 (p := 2) (u := 3) (v := 4) (y := 5) (ty := 23) rfl _ _ w.heap.size 23 (cellsB K).toArray _ _ rfl (setRow_heap _ _ _ _ 23 _ (show Bw W4.drew w.heap.size 23 (zer 32) from Z4.out)) Try.underlying23 rfl IK.out _ _ _ rfl rfl rfl
  · exact ⟨A3, n3, c3, by rw [N46.out], ((show OwnB W4.drew W2.heap.size _ V from O4.out).rowFar (by have := B2.out.size; have := Z2.out.lt; omega) _).less (by have := B2.out.size; omega), below_setRow B4.out.drew (Nat.le_refl _) _⟩

set_option maxRecDepth 100000 in
set_option maxHeartbeats 4000000 in
theorem rftake_fine0 (w : World) (g o n c : Nat) (l : List UInt8) (h : HasB w w.heap.size (some ⟨g, o, none⟩) n l) (hc : n ≤ c) (hcm : c ≤ 2 ^ 63 - 1) (hn : n ≤ 1073741824) (h46 : ¬ n < 46)
    (hb0 : l[0]? = some 199) (hb1 : l[1]? = some 70) (h4 : ¬ 4200 < fN l) (h5 : ¬ n < 46 + fN l) (hs : frS (fK l) (fB l) = fT l) (hcc : c = 46) :
    Calls Try.prog 17 #[.slice (some ⟨g, o, none⟩) n c] w (RetTk w (ftake l)) := by
  have hl := h.len
  have IV := Lib.hid (id_iv (zer 32) rfl)
  have hg : g < w.heap.size := by
    obtain ⟨g', o', e, hg, hcell⟩ := h.2 (by omega)
    simp only [Option.some.injEq, Addr.mk.injEq, and_true] at e
    obtain ⟨rfl, rfl⟩ := e
    exact hg
  have hc0 : w.cell? ⟨g, o, none⟩ = some (.int .u8 199) := by
    obtain ⟨g', o', e, _, hcell⟩ := h.2 (by omega)
    simp only [Option.some.injEq, Addr.mk.injEq, and_true] at e
    obtain ⟨rfl, rfl⟩ := e
    exact hcell 0 199 hb0
  have hc1 : w.cell? ⟨g, o + 1, none⟩ = some (.int .u8 70) := by
    obtain ⟨g', o', e, _, hcell⟩ := h.2 (by omega)
    simp only [Option.some.injEq, Addr.mk.injEq, and_true] at e
    obtain ⟨rfl, rfl⟩ := e
    exact hcell 1 70 hb1
  have C1 : Hid (∀ W, Below w.heap.size w W → Calls Try.prog 38 #[.slice (some ⟨g, o, none⟩) n c, .int .i64 2, .int .i64 4] W fun e w' => e = .returned (.tuple #[.int .u64 (fN l : Nat), .int .i64 0]) ∧ W = w') := Lib.hid (fun W hW => by
    have := rat_any (some ⟨g, o, none⟩) l n c 2 4 W (h.on hW) hn (by omega) (by omega)
    rwa [(at_fN l (by omega)).1, (at_fN l (by omega)).2] at this)
  have hfl := fN_lt l
  have hkl := fK_len l (by omega)
  have hbl := fB_len l (by omega)
  have hiff := fr_iff l hb0 hb1 (by omega)
  have hFl := frL_len (fK l) (fB l) hkl
  have hpe : fputE (fB l) = 0 := fputE_ok (by omega)
  have hpl : fputL (fK l) (fB l) = frL (fK l) (fB l) := fputL_ok (by omega)
  have hwin : ∀ W, HasB W W.heap.size (some ⟨g, o, none⟩) n l → HasB W W.heap.size (some ⟨g, o + 46, none⟩) (fN l) (fB l) := fun W hW => hW.window (k := 46) (s := fN l) (by omega) rfl (fun _ => rfl)
  have hpre : ∀ W, HasB W W.heap.size (some ⟨g, o, none⟩) n l → HasB W W.heap.size (some ⟨g, o, none⟩) (46 + fN l) (l.take (46 + fN l)) := fun W hW => by
    have := hW.window (k := 0) (s := 46 + fN l) (by omega) (A' := some ⟨g, o, none⟩) (m := 46 + fN l) rfl (fun _ => rfl)
    rwa [List.drop_zero] at this
  have hbelen := hbl
  rw [((((ftake_of l).2.2 (by omega) hb0 hb1).2 (by omega)).2 (by omega)).1 hs]
  have LDK : Hid (∀ W, HasB W W.heap.size (some ⟨g, o, none⟩) n l → (loadVar 23 ⟨g, o + 14, none⟩).run Try.prog W = .ok (.agg (cellsB (fK l)).toArray) W) := Lib.hid (fun W hW => hW.load_idAt (k := 14) (by omega))
  obtain ⟨N, hN⟩ : ∃ N, fN l = N := ⟨_, rfl⟩
  obtain ⟨K, hK⟩ : ∃ K, fK l = K := ⟨_, rfl⟩
  obtain ⟨V, hV⟩ : ∃ V, fB l = V := ⟨_, rfl⟩
  obtain ⟨F, hF⟩ : ∃ F, frL K V = F := ⟨_, rfl⟩
  obtain ⟨G, hG⟩ : ∃ G, l.take (46 + N) = G := ⟨_, rfl⟩
  rw [hK, hV, hF] at hFl
  rw [hK, hV, hF] at hpl
  rw [hV] at hpe hbl
  rw [hN] at hbl h4 h5 hfl
  rw [hK] at hkl LDK
  rw [hN, hK, hV, hF, hG] at hiff
  simp only [hN, hV] at hwin
  simp only [hN, hG] at hpre
  rw [hN] at C1
  rw [hK, hV, hN]
  subst hcc
  obtain rfl : n = 46 := by omega
  obtain rfl : N = 0 := by omega
  have C2 : Hid (∀ W A' n' c', HasB W W.heap.size A' n' V → n' ≤ c' → n' ≤ 1073741824 → Calls Try.prog 11 #[.agg (cellsB K).toArray, .slice A' n' c'] W (RetBE W F 0)) := Lib.hid (fun W A' n' c' q1 q2 q3 => by
    have := rfput_any W A' n' c' K V q1 q2 q3 hkl
    rwa [hpe, hpl] at this)
  have LDK1 := LDK
  have WIN : Hid (∀ (W : World), HasB W W.heap.size (some ⟨g, o, none⟩) 0 V) := Lib.hid (fun W => by rw [List.eq_nil_of_length_eq_zero (l := V) (by omega)]; exact ⟨rfl, fun q => absurd q (by omega)⟩)
  have PRE := Lib.hid hpre
  have IK := Lib.hid (id_iv K hkl)
  have KZ := Lib.hid (id_hz K hkl)
  have FL : Hid (F.length = 46) := Lib.hid (by omega)
  have VL := Lib.hid hbl
  have HB := Lib.hid h
  have KL := Lib.hid hkl
  have hFG : F = G := hiff.2 (by rw [← hK, ← hV]; exact hs)
  have DFG : Hid (decide (F ≠ G) = false) := Lib.hid (by simp [hFG])
  clear h4 h5 h46 hc hn hcm hN hK hV hF hG hFl hpl hpe hbl hbelen hkl hiff hwin hpre LDK hFG h hl hb0 hb1 hs
  go_enter Try.func17, Try.ntmps17
  go_upto_region 1 with fail
  generalize hW1 : World.alloc _ _ = W1
  have hb1 : Below w.heap.size w W1 := by rw [← hW1]; exact (Below.refl _ w).alloc (Nat.le_refl _) _
  have hz1 : Bw W1 w.heap.size 23 (zer 32) := by rw [← hW1]; exact Bw.new w (zer 32) _
  have c0 : W1.cell? ⟨g, o, none⟩ = some (.int .u8 199) := (hb1.cell (p := ⟨g, o, none⟩) hg).trans hc0
  have c1 : W1.cell? ⟨g, o + 1, none⟩ = some (.int .u8 70) := (hb1.cell (p := ⟨g, o + 1, none⟩) hg).trans hc1
  have C1' := Lib.hid (C1.out W1 hb1)
  have LD1 := Lib.hid (LDK1.out W1 (HB.out.on hb1))
  have B1 := Lib.hid hb1
  have Z1 := Lib.hid hz1
  clear hb1 hz1 hW1 hc0 hc1 C1 LDK1
  go_upto_region 10 with (first
    | (go_at_call 38; refine C1'.out.mono ?_; rintro e w1 ⟨rfl, rfl⟩))
  go_upto_region 11 with (first
    | (refine wpList_arrayAt rfl 23 _ 32 (.tmp 43) rfl Try.underlying23 _ _ _ rfl (Nat.le_refl _) ?_)
    | (refine wpList_load_at rfl 23 (.tmp 44) rfl ⟨g, o + 14, none⟩ rfl _ LD1.out ?_)
    | (refine wpList_store_row rfl 23 (.tmp 8) (.tmp 45) rfl W1.heap.size (cellsB K).toArray rfl rfl 23 _ (Bw.new W1 (zer 32) 23) IK.out KZ.out (cellsB_ones _) ?_
       have hrow := box_below W1 K
       have hk2 := box_id W1 K
       generalize hW2 : World.setRow _ _ _ = W2
       rw [show (W1.alloc (.cells (cellsB (zer 32)).toArray 23)).setRow W1.heap.size (cellsB K).toArray = W2 from hW2] at hrow hk2
       have K2 := Lib.hid hk2
       have Z2 := Lib.hid (Z1.out.below hrow Z1.out.lt)
       have B2 := Lib.hid (B1.out.trans (hrow.mono B1.out.size))
       clear hrow hk2 hW2))
  go_upto_region 12 with (first
    | (at_builtin; refine wp_app rfl (.tmp 46) (.tmp 51) rfl Try.underlying24 infoU8 W2.heap.size _ [] V rfl (OwnB.empty W2) _ _ _ _ rfl (WIN.out _) (by have := VL.out; simp; omega) (by simp) ?_; intro A3 n3 c3 W3 hown3 hg3 hb3
       rw [List.nil_append] at hown3
       have hb3' : Below W2.heap.size W2 W3 := ((Below.refl _ W2).alloc (Nat.le_refl _) _).trans hb3
       have hn3 := hown3.len
       have hc3 := hown3.caps
       have O3 := Lib.hid hown3
       have K3 := Lib.hid (K2.out.below hb3' K2.out.lt)
       have Z3 := Lib.hid (Z2.out.below hb3' Z2.out.lt)
       have B3 := Lib.hid (B2.out.trans (hb3'.mono B2.out.size))
       have hn3' : n3 ≤ 4200 := by have := VL.out; omega
       clear hown3 hg3 hb3 hb3' hn3))
  go_upto_region 13 with (first
    | (refine wpList_load_rowG rfl 23 (.tmp 8) rfl W1.heap.size rfl (.agg (cellsB K).toArray) (K3.out.load KL.out) ?_)
    | (go_at_call 11; refine (C2.out _ _ _ _ O3.out.has hc3.1 (by omega)).mono ?_; rintro e W4 ⟨A4, n4, c4, rfl, o4, b4⟩
       have hn4 := o4.len
       have n46 : n4 = 46 := by have := FL.out; omega
       have n4c : n4 ≤ 46 := by omega
       have N46 := Lib.hid n46
       have hb4 := B3.out.trans (b4.mono B3.out.size)
       have K5 : Hid (∀ W, Below W4.heap.size W4 W → (convert 24 9 (.slice A4 n4 c4)).run Try.prog W = .ok (.string ⟨F.toArray⟩) W) := Lib.hid (fun W hW => run_conv (P := Try.prog) Try.underlying24 Try.underlying5 Try.underlying9 _ A4 n4 c4 F (o4.has.on hW))
       have K6 : Hid (∀ W, Below W4.heap.size W4 W → (convert 24 9 (.slice (some ⟨g, o, none⟩) n4 46)).run Try.prog W = .ok (.string ⟨G.toArray⟩) W) := Lib.hid (fun W hW => run_conv (P := Try.prog) Try.underlying24 Try.underlying5 Try.underlying9 _ (some ⟨g, o, none⟩) n4 46 G (by rw [N46.out]; exact PRE.out W (HB.out.on (hb4.trans (hW.mono hb4.size)))))
       have K4 := Lib.hid (K3.out.below b4 K3.out.lt)
       have Z4 := Lib.hid (Z3.out.below b4 Z3.out.lt)
       have O4 := Lib.hid (O3.out.below b4)
       have B4 := Lib.hid hb4
       clear o4 b4 hb4 hn4 n46))
  refine wp_region_held_drew (S := fun W => Below W4.heap.size W4 W) (by kernel_rfl) (Below.refl _ W4).drew (fun hHeld => ?_)
  refine wpAnyH_take (i := 0) (v := ?v0q) (by simp only [List.getElem?_toArray, List.getElem?_cons_succ, List.getElem?_cons_zero]; rfl) (by kernel_rfl) (by kernel_rfl) (by kernel_rfl) (by exact fun _ _ _ h => h) (Or.inl ⟨by rfl, ?h0q⟩) (by assumption) ?_
  case h0q => (intro W hSw; (try dsimp only at hSw); go_simp; try with_reducible rfl)
  try simp only [Act.put, List.setIfInBounds_toArray, List.set_cons_zero, List.set_cons_succ]
  refine wpAnyH_take (i := 1) (by simp only [List.getElem?_toArray, List.getElem?_cons_succ, List.getElem?_cons_zero]; rfl) (by kernel_rfl) (by kernel_rfl) (by kernel_rfl) (by exact fun _ _ _ h => h) (yieldsIf_conv (by rfl) 24 9 (.tmp 59) rfl (.slice A4 n4 c4) (.string ⟨F.toArray⟩) rfl (fun W hW => K5.out W hW)) (by assumption) ?_
  try simp only [Act.put, List.setIfInBounds_toArray, List.set_cons_zero, List.set_cons_succ]
  refine wpAnyH_take (i := 2) (v := ?v2q) (by simp only [List.getElem?_toArray, List.getElem?_cons_succ, List.getElem?_cons_zero]; rfl) (by kernel_rfl) (by kernel_rfl) (by kernel_rfl) (by exact fun _ _ _ h => h) (Or.inl ⟨by rfl, ?h2q⟩) (by assumption) ?_
  case h2q => (intro W hSw; (try dsimp only at hSw); go_simp; try with_reducible rfl)
  try simp only [Act.put, List.setIfInBounds_toArray, List.set_cons_zero, List.set_cons_succ]
  refine wpAnyH_take (i := 3) (v := ?v3q) (by simp only [List.getElem?_toArray, List.getElem?_cons_succ, List.getElem?_cons_zero]; rfl) (by kernel_rfl) (by kernel_rfl) (by kernel_rfl) (by exact fun _ _ _ h => h) (Or.inl ⟨by rfl, ?h3q⟩) (by assumption) ?_
  case h3q => (intro W hSw; (try dsimp only at hSw); go_simp; try with_reducible rfl)
  try simp only [Act.put, List.setIfInBounds_toArray, List.set_cons_zero, List.set_cons_succ]
  refine wpAnyH_take (i := 4) (v := ?v4q) (by simp only [List.getElem?_toArray, List.getElem?_cons_succ, List.getElem?_cons_zero]; rfl) (by kernel_rfl) (by kernel_rfl) (by kernel_rfl) (by exact fun _ _ _ h => h) (Or.inl ⟨by rfl, ?h4q⟩) (by assumption) ?_
  case h4q => (intro W hSw; (try dsimp only at hSw); go_simp; try with_reducible rfl)
  try simp only [Act.put, List.setIfInBounds_toArray, List.set_cons_zero, List.set_cons_succ]
  refine wpAnyH_take (i := 5) (v := .slice (some ⟨g, o, none⟩) n4 46) (by simp only [List.getElem?_toArray, List.getElem?_cons_succ, List.getElem?_cons_zero]; rfl) (by kernel_rfl) (by kernel_rfl) (by kernel_rfl) (by exact fun _ _ _ h => h) (Or.inl ⟨by rfl, ?h5q⟩) (by assumption) ?_
  case h5q => (intro W hSw; (try dsimp only at hSw); go_simp; try (first | (rw [if_pos (show n4 ≤ 46 from n4c)]; done) | (intro hbad; omega)))
  try simp only [Act.put, List.setIfInBounds_toArray, List.set_cons_zero, List.set_cons_succ]
  refine wpAnyH_take (i := 6) (by simp only [List.getElem?_toArray, List.getElem?_cons_succ, List.getElem?_cons_zero]; rfl) (by kernel_rfl) (by kernel_rfl) (by kernel_rfl) (by exact fun _ _ _ h => h) (yieldsIf_conv (by rfl) 24 9 (.tmp 64) rfl (.slice (some ⟨g, o, none⟩) n4 46) (.string ⟨G.toArray⟩) rfl (fun W hW => K6.out W hW)) (by assumption) ?_
  try simp only [Act.put, List.setIfInBounds_toArray, List.set_cons_zero, List.set_cons_succ]
  refine wpAnyH_take (i := 7) (by simp only [List.getElem?_toArray, List.getElem?_cons_succ, List.getElem?_cons_zero]; rfl) (by kernel_rfl) (by kernel_rfl) (by kernel_rfl) (by exact fun _ _ _ h => h) (yieldsIf_bin (by rfl) .neq 9 9 (.tmp 60) (.tmp 65) rfl (.string ⟨F.toArray⟩) (.string ⟨G.toArray⟩) (.bool false) rfl rfl (guard_neq_str _ _ _ _) (fun W => by rw [neq_str, DFG.out])) (by assumption) ?_
  try simp only [Act.put, List.setIfInBounds_toArray, List.set_cons_zero, List.set_cons_succ]
  refine wpAnyH_done (by kernel_rfl) ?_ _
  go_wp2_with (first
    | (refine wpList_load_rowG rfl 23 (.tmp 8) rfl W1.heap.size rfl (.agg (cellsB K).toArray) ((show Bw W4.drew W1.heap.size 23 K from K4.out).load KL.out) ?_)
    | (refine wpList_store_row rfl 23 (.tmp 2) (.tmp 68) rfl w.heap.size (cellsB K).toArray rfl rfl 23 _ (show Bw W4.drew w.heap.size 23 (zer 32) from Z4.out) IK.out KZ.out (cellsB_ones _) ?_))
  refine bodyPost_ret (v := .tuple #[.agg (cellsB K).toArray, .slice A3 n3 c3, .int .i64 (n4 : Int), .int .i64 0]) ?_ (by rfl) ?_
  · exact results_cell_row4 (p := 2) (u := 3) (v := 4) (y := 5) (ty := 23) rfl _ _ w.heap.size 23 (cellsB K).toArray _ _ rfl (setRow_heap _ _ _ _ 23 _ (show Bw W4.drew w.heap.size 23 (zer 32) from Z4.out)) Try.underlying23 rfl IK.out _ _ _ rfl rfl rfl
  · exact ⟨A3, n3, c3, by rw [N46.out], ((show OwnB W4.drew W2.heap.size _ V from O4.out).rowFar (by have := B2.out.size; have := Z2.out.lt; omega) _).less (by have := B2.out.size; omega), below_setRow B4.out.drew (Nat.le_refl _) _⟩

set_option maxRecDepth 100000 in
set_option maxHeartbeats 4000000 in
theorem rftake_rot (w : World) (g o n c : Nat) (l : List UInt8) (h : HasB w w.heap.size (some ⟨g, o, none⟩) n l) (hc : n ≤ c) (hcm : c ≤ 2 ^ 63 - 1) (hn : n ≤ 1073741824) (h46 : ¬ n < 46)
    (hb0 : l[0]? = some 199) (hb1 : l[1]? = some 70) (h4 : ¬ 4200 < fN l) (h5 : ¬ n < 46 + fN l) (hs : ¬ frS (fK l) (fB l) = fT l) (hcc : ¬ c = 46) :
    Calls Try.prog 17 #[.slice (some ⟨g, o, none⟩) n c] w (RetTk w (ftake l)) := by
  have hl := h.len
  have IV := Lib.hid (id_iv (zer 32) rfl)
  have hg : g < w.heap.size := by
    obtain ⟨g', o', e, hg, hcell⟩ := h.2 (by omega)
    simp only [Option.some.injEq, Addr.mk.injEq, and_true] at e
    obtain ⟨rfl, rfl⟩ := e
    exact hg
  have hc0 : w.cell? ⟨g, o, none⟩ = some (.int .u8 199) := by
    obtain ⟨g', o', e, _, hcell⟩ := h.2 (by omega)
    simp only [Option.some.injEq, Addr.mk.injEq, and_true] at e
    obtain ⟨rfl, rfl⟩ := e
    exact hcell 0 199 hb0
  have hc1 : w.cell? ⟨g, o + 1, none⟩ = some (.int .u8 70) := by
    obtain ⟨g', o', e, _, hcell⟩ := h.2 (by omega)
    simp only [Option.some.injEq, Addr.mk.injEq, and_true] at e
    obtain ⟨rfl, rfl⟩ := e
    exact hcell 1 70 hb1
  have C1 : Hid (∀ W, Below w.heap.size w W → Calls Try.prog 38 #[.slice (some ⟨g, o, none⟩) n c, .int .i64 2, .int .i64 4] W fun e w' => e = .returned (.tuple #[.int .u64 (fN l : Nat), .int .i64 0]) ∧ W = w') := Lib.hid (fun W hW => by
    have := rat_any (some ⟨g, o, none⟩) l n c 2 4 W (h.on hW) hn (by omega) (by omega)
    rwa [(at_fN l (by omega)).1, (at_fN l (by omega)).2] at this)
  have hfl := fN_lt l
  have hkl := fK_len l (by omega)
  have hbl := fB_len l (by omega)
  have hiff := fr_iff l hb0 hb1 (by omega)
  have hFl := frL_len (fK l) (fB l) hkl
  have hpe : fputE (fB l) = 0 := fputE_ok (by omega)
  have hpl : fputL (fK l) (fB l) = frL (fK l) (fB l) := fputL_ok (by omega)
  have hwin : ∀ W, HasB W W.heap.size (some ⟨g, o, none⟩) n l → HasB W W.heap.size (some ⟨g, o + 46, none⟩) (fN l) (fB l) := fun W hW => hW.window (k := 46) (s := fN l) (by omega) rfl (fun _ => rfl)
  have hpre : ∀ W, HasB W W.heap.size (some ⟨g, o, none⟩) n l → HasB W W.heap.size (some ⟨g, o, none⟩) (46 + fN l) (l.take (46 + fN l)) := fun W hW => by
    have := hW.window (k := 0) (s := 46 + fN l) (by omega) (A' := some ⟨g, o, none⟩) (m := 46 + fN l) rfl (fun _ => rfl)
    rwa [List.drop_zero] at this
  have hbelen := hbl
  rw [((((ftake_of l).2.2 (by omega) hb0 hb1).2 (by omega)).2 (by omega)).2 hs]
  have LDK : Hid (∀ W, HasB W W.heap.size (some ⟨g, o, none⟩) n l → (loadVar 23 ⟨g, o + 14, none⟩).run Try.prog W = .ok (.agg (cellsB (fK l)).toArray) W) := Lib.hid (fun W hW => hW.load_idAt (k := 14) (by omega))
  obtain ⟨N, hN⟩ : ∃ N, fN l = N := ⟨_, rfl⟩
  obtain ⟨K, hK⟩ : ∃ K, fK l = K := ⟨_, rfl⟩
  obtain ⟨V, hV⟩ : ∃ V, fB l = V := ⟨_, rfl⟩
  obtain ⟨F, hF⟩ : ∃ F, frL K V = F := ⟨_, rfl⟩
  obtain ⟨G, hG⟩ : ∃ G, l.take (46 + N) = G := ⟨_, rfl⟩
  rw [hK, hV, hF] at hFl
  rw [hK, hV, hF] at hpl
  rw [hV] at hpe hbl
  rw [hN] at hbl h4 h5 hfl
  rw [hK] at hkl LDK
  rw [hN, hK, hV, hF, hG] at hiff
  simp only [hN, hV] at hwin
  simp only [hN, hG] at hpre
  rw [hN] at C1
  have C2 : Hid (∀ W A' n' c', HasB W W.heap.size A' n' V → n' ≤ c' → n' ≤ 1073741824 → Calls Try.prog 11 #[.agg (cellsB K).toArray, .slice A' n' c'] W (RetBE W F 0)) := Lib.hid (fun W A' n' c' q1 q2 q3 => by
    have := rfput_any W A' n' c' K V q1 q2 q3 hkl
    rwa [hpe, hpl] at this)
  have LDK1 := LDK
  have WIN : Hid (∀ (W : World) (m : Nat), m = N → HasB W W.heap.size (some ⟨g, o, none⟩) n l → HasB W W.heap.size (some ⟨g, o + 46, none⟩) m V) := Lib.hid (fun W m hm hW => by rw [hm]; exact hwin W hW)
  have PRE := Lib.hid hpre
  have IK := Lib.hid (id_iv K hkl)
  have KZ := Lib.hid (id_hz K hkl)
  have FL : Hid (F.length = 46 + N) := Lib.hid (by omega)
  have VL := Lib.hid hbl
  have HB := Lib.hid h
  have KL := Lib.hid hkl
  have hFG : ¬ F = G := fun q => hs (by rw [hK, hV]; exact hiff.1 q)
  have DFG : Hid (decide (F ≠ G) = true) := Lib.hid (by simp [hFG])
  clear hN hK hV hF hG hFl hpl hpe hbl hbelen hkl hiff hwin hpre LDK hFG h hl hb0 hb1 hs
  go_enter Try.func17, Try.ntmps17
  go_upto_region 1 with fail
  generalize hW1 : World.alloc _ _ = W1
  have hb1 : Below w.heap.size w W1 := by rw [← hW1]; exact (Below.refl _ w).alloc (Nat.le_refl _) _
  have hz1 : Bw W1 w.heap.size 23 (zer 32) := by rw [← hW1]; exact Bw.new w (zer 32) _
  have c0 : W1.cell? ⟨g, o, none⟩ = some (.int .u8 199) := (hb1.cell (p := ⟨g, o, none⟩) hg).trans hc0
  have c1 : W1.cell? ⟨g, o + 1, none⟩ = some (.int .u8 70) := (hb1.cell (p := ⟨g, o + 1, none⟩) hg).trans hc1
  have C1' := Lib.hid (C1.out W1 hb1)
  have LD1 := Lib.hid (LDK1.out W1 (HB.out.on hb1))
  have B1 := Lib.hid hb1
  have Z1 := Lib.hid hz1
  clear hb1 hz1 hW1 hc0 hc1 C1 LDK1
  go_upto_region 10 with (first
    | (go_at_call 38; refine C1'.out.mono ?_; rintro e w1 ⟨rfl, rfl⟩))
  go_upto_region 11 with (first
    | (refine wpList_arrayAt rfl 23 _ 32 (.tmp 43) rfl Try.underlying23 _ _ _ rfl (Nat.le_refl _) ?_)
    | (refine wpList_load_at rfl 23 (.tmp 44) rfl ⟨g, o + 14, none⟩ rfl _ LD1.out ?_)
    | (refine wpList_store_row rfl 23 (.tmp 8) (.tmp 45) rfl W1.heap.size (cellsB K).toArray rfl rfl 23 _ (Bw.new W1 (zer 32) 23) IK.out KZ.out (cellsB_ones _) ?_
       have hrow := box_below W1 K
       have hk2 := box_id W1 K
       generalize hW2 : World.setRow _ _ _ = W2
       rw [show (W1.alloc (.cells (cellsB (zer 32)).toArray 23)).setRow W1.heap.size (cellsB K).toArray = W2 from hW2] at hrow hk2
       have K2 := Lib.hid hk2
       have Z2 := Lib.hid (Z1.out.below hrow Z1.out.lt)
       have B2 := Lib.hid (B1.out.trans (hrow.mono B1.out.size))
       clear hrow hk2 hW2))
  go_upto_region 12 with (first
    | (at_builtin; refine wp_app rfl (.tmp 46) (.tmp 51) rfl Try.underlying24 infoU8 W2.heap.size _ [] V rfl (OwnB.empty W2) _ _ _ _ rfl (WIN.out _ _ (by omega) (HB.out.on (B2.out.alloc B2.out.size _))) (by have := VL.out; simp; omega) (by simp) ?_; intro A3 n3 c3 W3 hown3 hg3 hb3
       rw [List.nil_append] at hown3
       have hb3' : Below W2.heap.size W2 W3 := ((Below.refl _ W2).alloc (Nat.le_refl _) _).trans hb3
       have hn3 := hown3.len
       have hc3 := hown3.caps
       have O3 := Lib.hid hown3
       have K3 := Lib.hid (K2.out.below hb3' K2.out.lt)
       have Z3 := Lib.hid (Z2.out.below hb3' Z2.out.lt)
       have B3 := Lib.hid (B2.out.trans (hb3'.mono B2.out.size))
       have hn3' : n3 ≤ 4200 := by have := VL.out; omega
       clear hown3 hg3 hb3 hb3' hn3))
  go_upto_region 13 with (first
    | (refine wpList_load_rowG rfl 23 (.tmp 8) rfl W1.heap.size rfl (.agg (cellsB K).toArray) (K3.out.load KL.out) ?_)
    | (go_at_call 11; refine (C2.out _ _ _ _ O3.out.has hc3.1 (by omega)).mono ?_; rintro e W4 ⟨A4, n4, c4, rfl, o4, b4⟩
       have hn4 := o4.len
       have n46 : n4 = 46 + N := by have := FL.out; omega
       have n4c : n4 ≤ c := by omega
       have N46 := Lib.hid n46
       have hb4 := B3.out.trans (b4.mono B3.out.size)
       have K5 : Hid (∀ W, Below W4.heap.size W4 W → (convert 24 9 (.slice A4 n4 c4)).run Try.prog W = .ok (.string ⟨F.toArray⟩) W) := Lib.hid (fun W hW => run_conv (P := Try.prog) Try.underlying24 Try.underlying5 Try.underlying9 _ A4 n4 c4 F (o4.has.on hW))
       have K6 : Hid (∀ W, Below W4.heap.size W4 W → (convert 24 9 (.slice (some ⟨g, o, none⟩) n4 c)).run Try.prog W = .ok (.string ⟨G.toArray⟩) W) := Lib.hid (fun W hW => run_conv (P := Try.prog) Try.underlying24 Try.underlying5 Try.underlying9 _ (some ⟨g, o, none⟩) n4 c G (by rw [N46.out]; exact PRE.out W (HB.out.on (hb4.trans (hW.mono hb4.size)))))
       have K4 := Lib.hid (K3.out.below b4 K3.out.lt)
       have Z4 := Lib.hid (Z3.out.below b4 Z3.out.lt)
       have O4 := Lib.hid (O3.out.below b4)
       have B4 := Lib.hid hb4
       clear o4 b4 hb4 hn4 n46))
  refine wp_region_held_drew (S := fun W => Below W4.heap.size W4 W) (by kernel_rfl) (Below.refl _ W4).drew (fun hHeld => ?_)
  refine wpAnyH_take (i := 0) (v := ?v0q) (by simp only [List.getElem?_toArray, List.getElem?_cons_succ, List.getElem?_cons_zero]; rfl) (by kernel_rfl) (by kernel_rfl) (by kernel_rfl) (by exact fun _ _ _ h => h) (Or.inl ⟨by rfl, ?h0q⟩) (by assumption) ?_
  case h0q => (intro W hSw; (try dsimp only at hSw); go_simp; try with_reducible rfl)
  try simp only [Act.put, List.setIfInBounds_toArray, List.set_cons_zero, List.set_cons_succ]
  refine wpAnyH_take (i := 1) (by simp only [List.getElem?_toArray, List.getElem?_cons_succ, List.getElem?_cons_zero]; rfl) (by kernel_rfl) (by kernel_rfl) (by kernel_rfl) (by exact fun _ _ _ h => h) (yieldsIf_conv (by rfl) 24 9 (.tmp 59) rfl (.slice A4 n4 c4) (.string ⟨F.toArray⟩) rfl (fun W hW => K5.out W hW)) (by assumption) ?_
  try simp only [Act.put, List.setIfInBounds_toArray, List.set_cons_zero, List.set_cons_succ]
  refine wpAnyH_take (i := 2) (v := ?v2q) (by simp only [List.getElem?_toArray, List.getElem?_cons_succ, List.getElem?_cons_zero]; rfl) (by kernel_rfl) (by kernel_rfl) (by kernel_rfl) (by exact fun _ _ _ h => h) (Or.inl ⟨by rfl, ?h2q⟩) (by assumption) ?_
  case h2q => (intro W hSw; (try dsimp only at hSw); go_simp; try with_reducible rfl)
  try simp only [Act.put, List.setIfInBounds_toArray, List.set_cons_zero, List.set_cons_succ]
  refine wpAnyH_take (i := 3) (v := ?v3q) (by simp only [List.getElem?_toArray, List.getElem?_cons_succ, List.getElem?_cons_zero]; rfl) (by kernel_rfl) (by kernel_rfl) (by kernel_rfl) (by exact fun _ _ _ h => h) (Or.inl ⟨by rfl, ?h3q⟩) (by assumption) ?_
  case h3q => (intro W hSw; (try dsimp only at hSw); go_simp; try with_reducible rfl)
  try simp only [Act.put, List.setIfInBounds_toArray, List.set_cons_zero, List.set_cons_succ]
  refine wpAnyH_take (i := 4) (v := ?v4q) (by simp only [List.getElem?_toArray, List.getElem?_cons_succ, List.getElem?_cons_zero]; rfl) (by kernel_rfl) (by kernel_rfl) (by kernel_rfl) (by exact fun _ _ _ h => h) (Or.inl ⟨by rfl, ?h4q⟩) (by assumption) ?_
  case h4q => (intro W hSw; (try dsimp only at hSw); go_simp; try with_reducible rfl)
  try simp only [Act.put, List.setIfInBounds_toArray, List.set_cons_zero, List.set_cons_succ]
  refine wpAnyH_take (i := 5) (v := .slice (some ⟨g, o, none⟩) n4 c) (by simp only [List.getElem?_toArray, List.getElem?_cons_succ, List.getElem?_cons_zero]; rfl) (by kernel_rfl) (by kernel_rfl) (by kernel_rfl) (by exact fun _ _ _ h => h) (Or.inl ⟨by rfl, ?h5q⟩) (by assumption) ?_
  case h5q => (intro W hSw; (try dsimp only at hSw); go_simp; try (first | (rw [if_pos (show n4 ≤ c from n4c)]; done) | (intro hbad; omega)))
  try simp only [Act.put, List.setIfInBounds_toArray, List.set_cons_zero, List.set_cons_succ]
  refine wpAnyH_take (i := 6) (by simp only [List.getElem?_toArray, List.getElem?_cons_succ, List.getElem?_cons_zero]; rfl) (by kernel_rfl) (by kernel_rfl) (by kernel_rfl) (by exact fun _ _ _ h => h) (yieldsIf_conv (by rfl) 24 9 (.tmp 64) rfl (.slice (some ⟨g, o, none⟩) n4 c) (.string ⟨G.toArray⟩) rfl (fun W hW => K6.out W hW)) (by assumption) ?_
  try simp only [Act.put, List.setIfInBounds_toArray, List.set_cons_zero, List.set_cons_succ]
  refine wpAnyH_take (i := 7) (by simp only [List.getElem?_toArray, List.getElem?_cons_succ, List.getElem?_cons_zero]; rfl) (by kernel_rfl) (by kernel_rfl) (by kernel_rfl) (by exact fun _ _ _ h => h) (yieldsIf_bin (by rfl) .neq 9 9 (.tmp 60) (.tmp 65) rfl (.string ⟨F.toArray⟩) (.string ⟨G.toArray⟩) (.bool true) rfl rfl (guard_neq_str _ _ _ _) (fun W => by rw [neq_str, DFG.out])) (by assumption) ?_
  try simp only [Act.put, List.setIfInBounds_toArray, List.set_cons_zero, List.set_cons_succ]
  refine wpAnyH_done (by kernel_rfl) ?_ _
  go_wp2_with (first
    | (refine wpList_buildG rfl 23 rfl (cellsB (zer 32)).toArray built_id ?_)
    | (refine wpList_store_row rfl 23 (.tmp 2) (.tmp 67) rfl w.heap.size (cellsB (zer 32)).toArray rfl rfl 23 _ (show Bw W4.drew w.heap.size 23 (zer 32) from Z4.out) IV.out rfl (cellsB_ones _) ?_))
  refine bodyPost_ret (v := .tuple #[.agg (cellsB (zer 32)).toArray, .slice none 0 0, .int .i64 0, .int .i64 11]) ?_ (by rfl) ?_
  · exact results_cell_row4 (p := 2) (u := 3) (v := 4) (y := 5) (ty := 23) rfl _ _ w.heap.size 23 (cellsB (zer 32)).toArray _ _ rfl (setRow_heap _ _ _ _ 23 _ (show Bw W4.drew w.heap.size 23 (zer 32) from Z4.out)) Try.underlying23 rfl IV.out _ _ _ rfl rfl rfl
  · exact ⟨none, 0, 0, rfl, OwnB.nil _ _, below_setRow B4.out.drew (Nat.le_refl _) _⟩

set_option maxRecDepth 100000 in
set_option maxHeartbeats 4000000 in
theorem rftake_rot0 (w : World) (g o n c : Nat) (l : List UInt8) (h : HasB w w.heap.size (some ⟨g, o, none⟩) n l) (hc : n ≤ c) (hcm : c ≤ 2 ^ 63 - 1) (hn : n ≤ 1073741824) (h46 : ¬ n < 46)
    (hb0 : l[0]? = some 199) (hb1 : l[1]? = some 70) (h4 : ¬ 4200 < fN l) (h5 : ¬ n < 46 + fN l) (hs : ¬ frS (fK l) (fB l) = fT l) (hcc : c = 46) :
    Calls Try.prog 17 #[.slice (some ⟨g, o, none⟩) n c] w (RetTk w (ftake l)) := by
  have hl := h.len
  have IV := Lib.hid (id_iv (zer 32) rfl)
  have hg : g < w.heap.size := by
    obtain ⟨g', o', e, hg, hcell⟩ := h.2 (by omega)
    simp only [Option.some.injEq, Addr.mk.injEq, and_true] at e
    obtain ⟨rfl, rfl⟩ := e
    exact hg
  have hc0 : w.cell? ⟨g, o, none⟩ = some (.int .u8 199) := by
    obtain ⟨g', o', e, _, hcell⟩ := h.2 (by omega)
    simp only [Option.some.injEq, Addr.mk.injEq, and_true] at e
    obtain ⟨rfl, rfl⟩ := e
    exact hcell 0 199 hb0
  have hc1 : w.cell? ⟨g, o + 1, none⟩ = some (.int .u8 70) := by
    obtain ⟨g', o', e, _, hcell⟩ := h.2 (by omega)
    simp only [Option.some.injEq, Addr.mk.injEq, and_true] at e
    obtain ⟨rfl, rfl⟩ := e
    exact hcell 1 70 hb1
  have C1 : Hid (∀ W, Below w.heap.size w W → Calls Try.prog 38 #[.slice (some ⟨g, o, none⟩) n c, .int .i64 2, .int .i64 4] W fun e w' => e = .returned (.tuple #[.int .u64 (fN l : Nat), .int .i64 0]) ∧ W = w') := Lib.hid (fun W hW => by
    have := rat_any (some ⟨g, o, none⟩) l n c 2 4 W (h.on hW) hn (by omega) (by omega)
    rwa [(at_fN l (by omega)).1, (at_fN l (by omega)).2] at this)
  have hfl := fN_lt l
  have hkl := fK_len l (by omega)
  have hbl := fB_len l (by omega)
  have hiff := fr_iff l hb0 hb1 (by omega)
  have hFl := frL_len (fK l) (fB l) hkl
  have hpe : fputE (fB l) = 0 := fputE_ok (by omega)
  have hpl : fputL (fK l) (fB l) = frL (fK l) (fB l) := fputL_ok (by omega)
  have hwin : ∀ W, HasB W W.heap.size (some ⟨g, o, none⟩) n l → HasB W W.heap.size (some ⟨g, o + 46, none⟩) (fN l) (fB l) := fun W hW => hW.window (k := 46) (s := fN l) (by omega) rfl (fun _ => rfl)
  have hpre : ∀ W, HasB W W.heap.size (some ⟨g, o, none⟩) n l → HasB W W.heap.size (some ⟨g, o, none⟩) (46 + fN l) (l.take (46 + fN l)) := fun W hW => by
    have := hW.window (k := 0) (s := 46 + fN l) (by omega) (A' := some ⟨g, o, none⟩) (m := 46 + fN l) rfl (fun _ => rfl)
    rwa [List.drop_zero] at this
  have hbelen := hbl
  rw [((((ftake_of l).2.2 (by omega) hb0 hb1).2 (by omega)).2 (by omega)).2 hs]
  have LDK : Hid (∀ W, HasB W W.heap.size (some ⟨g, o, none⟩) n l → (loadVar 23 ⟨g, o + 14, none⟩).run Try.prog W = .ok (.agg (cellsB (fK l)).toArray) W) := Lib.hid (fun W hW => hW.load_idAt (k := 14) (by omega))
  obtain ⟨N, hN⟩ : ∃ N, fN l = N := ⟨_, rfl⟩
  obtain ⟨K, hK⟩ : ∃ K, fK l = K := ⟨_, rfl⟩
  obtain ⟨V, hV⟩ : ∃ V, fB l = V := ⟨_, rfl⟩
  obtain ⟨F, hF⟩ : ∃ F, frL K V = F := ⟨_, rfl⟩
  obtain ⟨G, hG⟩ : ∃ G, l.take (46 + N) = G := ⟨_, rfl⟩
  rw [hK, hV, hF] at hFl
  rw [hK, hV, hF] at hpl
  rw [hV] at hpe hbl
  rw [hN] at hbl h4 h5 hfl
  rw [hK] at hkl LDK
  rw [hN, hK, hV, hF, hG] at hiff
  simp only [hN, hV] at hwin
  simp only [hN, hG] at hpre
  rw [hN] at C1
  subst hcc
  obtain rfl : n = 46 := by omega
  obtain rfl : N = 0 := by omega
  have C2 : Hid (∀ W A' n' c', HasB W W.heap.size A' n' V → n' ≤ c' → n' ≤ 1073741824 → Calls Try.prog 11 #[.agg (cellsB K).toArray, .slice A' n' c'] W (RetBE W F 0)) := Lib.hid (fun W A' n' c' q1 q2 q3 => by
    have := rfput_any W A' n' c' K V q1 q2 q3 hkl
    rwa [hpe, hpl] at this)
  have LDK1 := LDK
  have WIN : Hid (∀ (W : World), HasB W W.heap.size (some ⟨g, o, none⟩) 0 V) := Lib.hid (fun W => by rw [List.eq_nil_of_length_eq_zero (l := V) (by omega)]; exact ⟨rfl, fun q => absurd q (by omega)⟩)
  have PRE := Lib.hid hpre
  have IK := Lib.hid (id_iv K hkl)
  have KZ := Lib.hid (id_hz K hkl)
  have FL : Hid (F.length = 46) := Lib.hid (by omega)
  have VL := Lib.hid hbl
  have HB := Lib.hid h
  have KL := Lib.hid hkl
  have hFG : ¬ F = G := fun q => hs (by rw [hK, hV]; exact hiff.1 q)
  have DFG : Hid (decide (F ≠ G) = true) := Lib.hid (by simp [hFG])
  clear h4 h5 h46 hc hn hcm hN hK hV hF hG hFl hpl hpe hbl hbelen hkl hiff hwin hpre LDK hFG h hl hb0 hb1 hs
  go_enter Try.func17, Try.ntmps17
  go_upto_region 1 with fail
  generalize hW1 : World.alloc _ _ = W1
  have hb1 : Below w.heap.size w W1 := by rw [← hW1]; exact (Below.refl _ w).alloc (Nat.le_refl _) _
  have hz1 : Bw W1 w.heap.size 23 (zer 32) := by rw [← hW1]; exact Bw.new w (zer 32) _
  have c0 : W1.cell? ⟨g, o, none⟩ = some (.int .u8 199) := (hb1.cell (p := ⟨g, o, none⟩) hg).trans hc0
  have c1 : W1.cell? ⟨g, o + 1, none⟩ = some (.int .u8 70) := (hb1.cell (p := ⟨g, o + 1, none⟩) hg).trans hc1
  have C1' := Lib.hid (C1.out W1 hb1)
  have LD1 := Lib.hid (LDK1.out W1 (HB.out.on hb1))
  have B1 := Lib.hid hb1
  have Z1 := Lib.hid hz1
  clear hb1 hz1 hW1 hc0 hc1 C1 LDK1
  go_upto_region 10 with (first
    | (go_at_call 38; refine C1'.out.mono ?_; rintro e w1 ⟨rfl, rfl⟩))
  go_upto_region 11 with (first
    | (refine wpList_arrayAt rfl 23 _ 32 (.tmp 43) rfl Try.underlying23 _ _ _ rfl (Nat.le_refl _) ?_)
    | (refine wpList_load_at rfl 23 (.tmp 44) rfl ⟨g, o + 14, none⟩ rfl _ LD1.out ?_)
    | (refine wpList_store_row rfl 23 (.tmp 8) (.tmp 45) rfl W1.heap.size (cellsB K).toArray rfl rfl 23 _ (Bw.new W1 (zer 32) 23) IK.out KZ.out (cellsB_ones _) ?_
       have hrow := box_below W1 K
       have hk2 := box_id W1 K
       generalize hW2 : World.setRow _ _ _ = W2
       rw [show (W1.alloc (.cells (cellsB (zer 32)).toArray 23)).setRow W1.heap.size (cellsB K).toArray = W2 from hW2] at hrow hk2
       have K2 := Lib.hid hk2
       have Z2 := Lib.hid (Z1.out.below hrow Z1.out.lt)
       have B2 := Lib.hid (B1.out.trans (hrow.mono B1.out.size))
       clear hrow hk2 hW2))
  go_upto_region 12 with (first
    | (at_builtin; refine wp_app rfl (.tmp 46) (.tmp 51) rfl Try.underlying24 infoU8 W2.heap.size _ [] V rfl (OwnB.empty W2) _ _ _ _ rfl (WIN.out _) (by have := VL.out; simp; omega) (by simp) ?_; intro A3 n3 c3 W3 hown3 hg3 hb3
       rw [List.nil_append] at hown3
       have hb3' : Below W2.heap.size W2 W3 := ((Below.refl _ W2).alloc (Nat.le_refl _) _).trans hb3
       have hn3 := hown3.len
       have hc3 := hown3.caps
       have O3 := Lib.hid hown3
       have K3 := Lib.hid (K2.out.below hb3' K2.out.lt)
       have Z3 := Lib.hid (Z2.out.below hb3' Z2.out.lt)
       have B3 := Lib.hid (B2.out.trans (hb3'.mono B2.out.size))
       have hn3' : n3 ≤ 4200 := by have := VL.out; omega
       clear hown3 hg3 hb3 hb3' hn3))
  go_upto_region 13 with (first
    | (refine wpList_load_rowG rfl 23 (.tmp 8) rfl W1.heap.size rfl (.agg (cellsB K).toArray) (K3.out.load KL.out) ?_)
    | (go_at_call 11; refine (C2.out _ _ _ _ O3.out.has hc3.1 (by omega)).mono ?_; rintro e W4 ⟨A4, n4, c4, rfl, o4, b4⟩
       have hn4 := o4.len
       have n46 : n4 = 46 := by have := FL.out; omega
       have n4c : n4 ≤ 46 := by omega
       have N46 := Lib.hid n46
       have hb4 := B3.out.trans (b4.mono B3.out.size)
       have K5 : Hid (∀ W, Below W4.heap.size W4 W → (convert 24 9 (.slice A4 n4 c4)).run Try.prog W = .ok (.string ⟨F.toArray⟩) W) := Lib.hid (fun W hW => run_conv (P := Try.prog) Try.underlying24 Try.underlying5 Try.underlying9 _ A4 n4 c4 F (o4.has.on hW))
       have K6 : Hid (∀ W, Below W4.heap.size W4 W → (convert 24 9 (.slice (some ⟨g, o, none⟩) n4 46)).run Try.prog W = .ok (.string ⟨G.toArray⟩) W) := Lib.hid (fun W hW => run_conv (P := Try.prog) Try.underlying24 Try.underlying5 Try.underlying9 _ (some ⟨g, o, none⟩) n4 46 G (by rw [N46.out]; exact PRE.out W (HB.out.on (hb4.trans (hW.mono hb4.size)))))
       have K4 := Lib.hid (K3.out.below b4 K3.out.lt)
       have Z4 := Lib.hid (Z3.out.below b4 Z3.out.lt)
       have O4 := Lib.hid (O3.out.below b4)
       have B4 := Lib.hid hb4
       clear o4 b4 hb4 hn4 n46))
  refine wp_region_held_drew (S := fun W => Below W4.heap.size W4 W) (by kernel_rfl) (Below.refl _ W4).drew (fun hHeld => ?_)
  refine wpAnyH_take (i := 0) (v := ?v0q) (by simp only [List.getElem?_toArray, List.getElem?_cons_succ, List.getElem?_cons_zero]; rfl) (by kernel_rfl) (by kernel_rfl) (by kernel_rfl) (by exact fun _ _ _ h => h) (Or.inl ⟨by rfl, ?h0q⟩) (by assumption) ?_
  case h0q => (intro W hSw; (try dsimp only at hSw); go_simp; try with_reducible rfl)
  try simp only [Act.put, List.setIfInBounds_toArray, List.set_cons_zero, List.set_cons_succ]
  refine wpAnyH_take (i := 1) (by simp only [List.getElem?_toArray, List.getElem?_cons_succ, List.getElem?_cons_zero]; rfl) (by kernel_rfl) (by kernel_rfl) (by kernel_rfl) (by exact fun _ _ _ h => h) (yieldsIf_conv (by rfl) 24 9 (.tmp 59) rfl (.slice A4 n4 c4) (.string ⟨F.toArray⟩) rfl (fun W hW => K5.out W hW)) (by assumption) ?_
  try simp only [Act.put, List.setIfInBounds_toArray, List.set_cons_zero, List.set_cons_succ]
  refine wpAnyH_take (i := 2) (v := ?v2q) (by simp only [List.getElem?_toArray, List.getElem?_cons_succ, List.getElem?_cons_zero]; rfl) (by kernel_rfl) (by kernel_rfl) (by kernel_rfl) (by exact fun _ _ _ h => h) (Or.inl ⟨by rfl, ?h2q⟩) (by assumption) ?_
  case h2q => (intro W hSw; (try dsimp only at hSw); go_simp; try with_reducible rfl)
  try simp only [Act.put, List.setIfInBounds_toArray, List.set_cons_zero, List.set_cons_succ]
  refine wpAnyH_take (i := 3) (v := ?v3q) (by simp only [List.getElem?_toArray, List.getElem?_cons_succ, List.getElem?_cons_zero]; rfl) (by kernel_rfl) (by kernel_rfl) (by kernel_rfl) (by exact fun _ _ _ h => h) (Or.inl ⟨by rfl, ?h3q⟩) (by assumption) ?_
  case h3q => (intro W hSw; (try dsimp only at hSw); go_simp; try with_reducible rfl)
  try simp only [Act.put, List.setIfInBounds_toArray, List.set_cons_zero, List.set_cons_succ]
  refine wpAnyH_take (i := 4) (v := ?v4q) (by simp only [List.getElem?_toArray, List.getElem?_cons_succ, List.getElem?_cons_zero]; rfl) (by kernel_rfl) (by kernel_rfl) (by kernel_rfl) (by exact fun _ _ _ h => h) (Or.inl ⟨by rfl, ?h4q⟩) (by assumption) ?_
  case h4q => (intro W hSw; (try dsimp only at hSw); go_simp; try with_reducible rfl)
  try simp only [Act.put, List.setIfInBounds_toArray, List.set_cons_zero, List.set_cons_succ]
  refine wpAnyH_take (i := 5) (v := .slice (some ⟨g, o, none⟩) n4 46) (by simp only [List.getElem?_toArray, List.getElem?_cons_succ, List.getElem?_cons_zero]; rfl) (by kernel_rfl) (by kernel_rfl) (by kernel_rfl) (by exact fun _ _ _ h => h) (Or.inl ⟨by rfl, ?h5q⟩) (by assumption) ?_
  case h5q => (intro W hSw; (try dsimp only at hSw); go_simp; try (first | (rw [if_pos (show n4 ≤ 46 from n4c)]; done) | (intro hbad; omega)))
  try simp only [Act.put, List.setIfInBounds_toArray, List.set_cons_zero, List.set_cons_succ]
  refine wpAnyH_take (i := 6) (by simp only [List.getElem?_toArray, List.getElem?_cons_succ, List.getElem?_cons_zero]; rfl) (by kernel_rfl) (by kernel_rfl) (by kernel_rfl) (by exact fun _ _ _ h => h) (yieldsIf_conv (by rfl) 24 9 (.tmp 64) rfl (.slice (some ⟨g, o, none⟩) n4 46) (.string ⟨G.toArray⟩) rfl (fun W hW => K6.out W hW)) (by assumption) ?_
  try simp only [Act.put, List.setIfInBounds_toArray, List.set_cons_zero, List.set_cons_succ]
  refine wpAnyH_take (i := 7) (by simp only [List.getElem?_toArray, List.getElem?_cons_succ, List.getElem?_cons_zero]; rfl) (by kernel_rfl) (by kernel_rfl) (by kernel_rfl) (by exact fun _ _ _ h => h) (yieldsIf_bin (by rfl) .neq 9 9 (.tmp 60) (.tmp 65) rfl (.string ⟨F.toArray⟩) (.string ⟨G.toArray⟩) (.bool true) rfl rfl (guard_neq_str _ _ _ _) (fun W => by rw [neq_str, DFG.out])) (by assumption) ?_
  try simp only [Act.put, List.setIfInBounds_toArray, List.set_cons_zero, List.set_cons_succ]
  refine wpAnyH_done (by kernel_rfl) ?_ _
  go_wp2_with (first
    | (refine wpList_buildG rfl 23 rfl (cellsB (zer 32)).toArray built_id ?_)
    | (refine wpList_store_row rfl 23 (.tmp 2) (.tmp 67) rfl w.heap.size (cellsB (zer 32)).toArray rfl rfl 23 _ (show Bw W4.drew w.heap.size 23 (zer 32) from Z4.out) IV.out rfl (cellsB_ones _) ?_))
  refine bodyPost_ret (v := .tuple #[.agg (cellsB (zer 32)).toArray, .slice none 0 0, .int .i64 0, .int .i64 11]) ?_ (by rfl) ?_
  · exact results_cell_row4 (p := 2) (u := 3) (v := 4) (y := 5) (ty := 23) rfl _ _ w.heap.size 23 (cellsB (zer 32)).toArray _ _ rfl (setRow_heap _ _ _ _ 23 _ (show Bw W4.drew w.heap.size 23 (zer 32) from Z4.out)) Try.underlying23 rfl IV.out _ _ _ rfl rfl rfl
  · exact ⟨none, 0, 0, rfl, OwnB.nil _ _, below_setRow B4.out.drew (Nat.le_refl _) _⟩

end Go.Proofs.Ytadagbkfemcgfaa
