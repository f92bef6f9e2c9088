/-
  Own work. The program's frames: endOf, Take.
-/
import Derived.Test.YtadagbkfemcgfaaFpu
import Derived.Test.YtadagbkfemcgfaaFu10
namespace Go.Proofs.Ytadagbkfemcgfaa
open Go.RowKit
set_option linter.unusedVariables false
set_option linter.unusedSimpArgs false

/-- A whole frame stands at the beginning. -/
def fC (l : List UInt8) : Prop := 46 ≤ l.length ∧ l[0]? = some 199 ∧ l[1]? = some 70 ∧ fN l ≤ 4200 ∧ 46 + fN l ≤ l.length
theorem ftake_bad (l : List UInt8) (h : ¬ fC l) : ∃ k : Int, k ≠ 0 ∧ ftake l = .no k := by
  by_cases h1 : l.length < 46
  · exact ⟨3, by decide, (ftake_of l).1 h1⟩
  · by_cases h2 : l[0]? = some 199 ∧ l[1]? = some 70
    · by_cases h3 : fN l ≤ 4200
      · by_cases h4 : 46 + fN l ≤ l.length
        · exact absurd ⟨by omega, h2.1, h2.2, h3, h4⟩ h
        · exact ⟨3, by decide, (((ftake_of l).2.2 (by omega) h2.1 h2.2).2 h3).1 (by omega)⟩
      · exact ⟨2, by decide, ((ftake_of l).2.2 (by omega) h2.1 h2.2).1 (by omega)⟩
    · exact ⟨4, by decide, (ftake_of l).2.1 (by omega) h2⟩
theorem ftake_good (l : List UInt8) (h : fC l) : ftake l = if frS (fK l) (fB l) = fT l then ⟨fK l, fB l, 46 + fN l, 0⟩ else .no 11 := by
  obtain ⟨h1, h2, h3, h4, h5⟩ := h
  have q := (((ftake_of l).2.2 h1 h2 h3).2 h4).2 h5
  split
  · rename_i h; exact q.1 h
  · rename_i h; exact q.2 h
/-- What endOf says. -/
def RetEnd (w : World) (l : List UInt8) (e : Ending) (w' : World) : Prop :=
  w = w' ∧ ((¬ fC l ∧ ∃ k : Int, k ≠ 0 ∧ e = .returned (.tuple #[.int .i64 0, .int .i64 k]) ∧ ftake l = .no k) ∨
    (e = .returned (.tuple #[.int .i64 ((46 + fN l : Nat) : Int), .int .i64 0]) ∧ fC l))
set_option maxRecDepth 100000 in
set_option maxHeartbeats 1000000 in
theorem end_any (A : Option Addr) (n c : Nat) (l : List UInt8) (w : World) (h : HasB w w.heap.size A n l) (hc : n ≤ c) (hcm : c ≤ maxLen) (hn : n ≤ 1073741824) :
    Calls Try.prog 36 #[.slice A n c] w (RetEnd w l) := by
  have hl := h.len
  by_cases h46 : n < 46
  · have hf := (ftake_of l).1 (by omega)
    have HF := Lib.hid hf
    have NC : Hid (¬ fC l) := Lib.hid (fun q => by have := q.1; omega)
    clear h hl hf
    go_enter Try.func36, Try.ntmps36
    go_wp2_with fail
    go_ret2
    exact ⟨rfl, .inl ⟨NC.out, 3, by decide, rfl, HF.out⟩⟩
  · obtain ⟨g, o, rfl, hg, hcell⟩ := h.2 (by omega)
    obtain ⟨b0, hb0⟩ := at_some l 0 (by omega)
    obtain ⟨b1, hb1⟩ := at_some l 1 (by omega)
    have hc0 : w.cell? ⟨g, o, none⟩ = some (.int .u8 (b0.toNat : Int)) := hcell 0 b0 hb0
    have hc1 : w.cell? ⟨g, o + 1, none⟩ = some (.int .u8 (b1.toNat : Int)) := hcell 1 b1 hb1
    have hx0 := byte_ne (b := b0) (k := 199) (by omega)
    have hx1 := byte_ne (b := b1) (k := 70) (by omega)
    have hlt := fN_lt l
    have CA : Hid (Calls Try.prog 64 #[.slice (some ⟨g, o, none⟩) n c, .int .i64 2, .int .i64 4] w fun e w' => e = .returned (.tuple #[.int .u64 (fN l : Nat), .int .i64 0]) ∧ w = w') := Lib.hid (at_ok (some ⟨g, o, none⟩) l n c 2 4 w h hn hc hcm (by omega) (by omega) (by omega))
    by_cases h199 : b0.toNat = 199
    · have e0 := hx0.2 h199
      subst e0
      have hc0 : w.cell? ⟨g, o, none⟩ = some (.int .u8 199) := hc0
      by_cases h70 : b1.toNat = 70
      · have e1 := hx1.2 h70
        subst e1
        have hc1 : w.cell? ⟨g, o + 1, none⟩ = some (.int .u8 70) := hc1
        have q0 : l[0]? = some 199 := hb0
        have q1 : l[1]? = some 70 := hb1
        have FT := Lib.hid ((ftake_of l).2.2 (by omega) q0 q1)
        have Q0 := Lib.hid q0
        have Q1 := Lib.hid q1
        have HL := Lib.hid hl
        obtain ⟨N, hN⟩ : ∃ N, fN l = N := ⟨_, rfl⟩
        rw [hN] at CA FT hlt
        have HN := Lib.hid hN
        clear hx0 hx1 h199 h70 hcell hb0 hb1 q0 q1 hl h hN
        by_cases h4 : 4200 < N
        · go_enter Try.func36, Try.ntmps36
          go_wp2_with (first
            | (go_at_call 64; refine CA.out.mono ?_; rintro e w1 ⟨rfl, rfl⟩))
          go_ret2
          exact ⟨rfl, .inl ⟨fun q => by have := q.2.2.2.1; rw [HN.out] at this; omega, 2, by decide, rfl, FT.out.1 h4⟩⟩
        · have CS : Hid (Calls Try.prog 13 #[.int .i64 (N : Int)] w fun e w' => e = .returned (.int .i64 ((46 + N : Nat) : Int)) ∧ w = w') := Lib.hid (by
            have := fsize_any w (N : Int) (by omega)
            rwa [show fsz (N : Int) = ((46 + N : Nat) : Int) by unfold fsz; rw [if_neg (by omega)]; omega] at this)
          obtain ⟨E, hE⟩ : ∃ E, 46 + N = E := ⟨_, rfl⟩
          rw [hE] at CS
          have HE := Lib.hid hE
          have hE2 : E ≤ 4246 := by omega
          clear hE
          by_cases h5 : n < E
          · go_enter Try.func36, Try.ntmps36
            go_wp2_with (first
              | (go_at_call 64; refine CA.out.mono ?_; rintro e w1 ⟨rfl, rfl⟩)
              | (go_at_call 13; refine CS.out.mono ?_; rintro e w1 ⟨rfl, rfl⟩))
            go_ret2
            exact ⟨rfl, .inl ⟨fun q => by have := q.2.2.2.2; rw [HN.out] at this; have := HE.out; have := HL.out; omega, 3, by decide, rfl, (FT.out.2 (by omega)).1 (by have := HE.out; have := HL.out; omega)⟩⟩
          · go_enter Try.func36, Try.ntmps36
            go_wp2_with (first
              | (go_at_call 64; refine CA.out.mono ?_; rintro e w1 ⟨rfl, rfl⟩)
              | (go_at_call 13; refine CS.out.mono ?_; rintro e w1 ⟨rfl, rfl⟩))
            go_ret2
            have hE := HE.out
            have hL := HL.out
            exact ⟨rfl, .inr ⟨by rw [HN.out, hE]; rfl, by omega, Q0.out, Q1.out, by rw [HN.out]; omega, by rw [HN.out]; omega⟩⟩
      · have hf := (ftake_of l).2.1 (by omega) (fun q => h70 (by have := q.2; rw [hb1] at this; injection this with this; rw [this]; rfl))
        have HF := Lib.hid hf
        have NC : Hid (¬ fC l) := Lib.hid (fun q => h70 (by have := q.2.2.1; rw [hb1] at this; injection this with this; rw [this]; rfl))
        obtain ⟨z, hz⟩ : ∃ z : Int, ((b1.toNat : Nat) : Int) = z := ⟨_, rfl⟩
        rw [hz] at hc1
        have hz7 : ¬ z = 70 := by omega
        clear hx0 hx1 h199 h70 hcell hb0 hb1 hl h hf hz
        go_enter Try.func36, Try.ntmps36
        go_wp2_with fail
        go_ret2
        exact ⟨rfl, .inl ⟨NC.out, 4, by decide, rfl, HF.out⟩⟩
    · have hf := (ftake_of l).2.1 (by omega) (fun q => h199 (by have := q.1; rw [hb0] at this; injection this with this; rw [this]; rfl))
      have HF := Lib.hid hf
      have NC : Hid (¬ fC l) := Lib.hid (fun q => h199 (by have := q.2.1; rw [hb0] at this; injection this with this; rw [this]; rfl))
      obtain ⟨z, hz⟩ : ∃ z : Int, ((b0.toNat : Nat) : Int) = z := ⟨_, rfl⟩
      rw [hz] at hc0
      have hz7 : ¬ z = 199 := by omega
      clear hx0 hx1 h199 hcell hb0 hb1 hl h hf hz hc1
      go_enter Try.func36, Try.ntmps36
      go_wp2_with fail
      go_ret2
      exact ⟨rfl, .inl ⟨NC.out, 4, by decide, rfl, HF.out⟩⟩
theorem cellsB_all (l : List UInt8) : ∀ v ∈ (cellsB l).toArray.toList, v.oneCell' = true := by
  intro v hv
  have := Array.all_eq_true_iff_forall_mem.1 (cellsB_ones l) v (by simpa using hv)
  exact this
theorem bw_gone {W W' : World} {g : Nat} {t : TypeId} {l : List UInt8} (h : Bw W g t l) (cs : Array Value) (k : Nat) (hk : g ≠ k) : Bw (W.setRow k cs) g t l := h.rowFar hk cs
set_option maxRecDepth 100000 in
set_option maxHeartbeats 8000000 in
theorem ftake_no (w : World) (A : Option Addr) (n c : Nat) (l : List UInt8) (k : Int) (hk : k ≠ 0) (hf : ftake l = .no k)
    (he : Calls Try.prog 36 #[.slice A n c] (w.alloc (.cells (cellsB (zer 32)).toArray 23)) fun e w' => (w.alloc (.cells (cellsB (zer 32)).toArray 23)) = w' ∧ e = .returned (.tuple #[.int .i64 0, .int .i64 k])) :
    Calls Try.prog 16 #[.slice A n c] w (RetTk w (ftake l)) := by
  rw [hf]
  have IV := Lib.hid (id_iv (zer 32) rfl)
  have CE := Lib.hid he
  clear hf he
  go_enter Try.func16, Try.ntmps16
  go_wp2_with (first
    | (go_at_call 36; refine CE.out.mono ?_; rintro e w1 ⟨rfl, rfl⟩)
    | (refine wpList_buildG rfl 23 rfl (cellsB (zer 32)).toArray built_id ?_)
    | (refine wpList_store_row rfl 23 (.tmp 2) (.tmp 19) rfl w.heap.size (cellsB (zer 32)).toArray rfl rfl 23 _ (Bw.new w (zer 32) 23) IV.out rfl (cellsB_ones _) ?_))
  refine bodyPost_ret (v := .tuple #[.agg (cellsB (zer 32)).toArray, .slice none 0 0, .int .i64 0, .int .i64 k]) ?_ (by rfl) ?_
  · exact results_cell_row4 (p := 2) (u := 3) (v := 4) (y := 5) (ty := 23) rfl _ _ w.heap.size 23 (cellsB (zer 32)).toArray _ _ rfl (setRow_heap _ _ _ _ 23 _ (Bw.new w (zer 32) 23)) Try.underlying23 rfl IV.out _ _ _ rfl rfl rfl
  · exact ⟨none, 0, 0, rfl, OwnB.nil _ _, box_below w (zer 32)⟩
set_option maxRecDepth 100000 in
set_option maxHeartbeats 8000000 in
theorem ftake_yes (w : World) (g o n c : Nat) (l : List UInt8) (h : HasB w w.heap.size (some ⟨g, o, none⟩) n l) (hc : n ≤ c) (hcm : c ≤ 2 ^ 63 - 1) (hn : n ≤ 1073741824)
    (h4 : fN l ≤ 4200) (h5 : 46 + fN l ≤ l.length) (he : Calls Try.prog 36 #[.slice (some ⟨g, o, none⟩) n c] (w.alloc (.cells (cellsB (zer 32)).toArray 23)) fun e w' => (w.alloc (.cells (cellsB (zer 32)).toArray 23)) = w' ∧ e = .returned (.tuple #[.int .i64 ((46 + fN l : Nat) : Int), .int .i64 0])) :
    Calls Try.prog 16 #[.slice (some ⟨g, o, none⟩) n c] w (RetTk w (if frS (fK l) (fB l) = fT l then ⟨fK l, fB l, 46 + fN l, 0⟩ else .no 11)) := by
  have hl := h.len
  have hg : g < w.heap.size := by
    obtain ⟨g', o', e, hg, _⟩ := h.2 (by omega)
    simp only [Option.some.injEq, Addr.mk.injEq, and_true] at e
    omega
  have hkl := fK_len l (by omega)
  have htl := fT_len l (by omega)
  have hbl := fB_len l h5
  have hsl := frS_len (fK l) (fB l)
  have LT : Hid (∀ W, HasB W W.heap.size (some ⟨g, o, none⟩) n l → (loadVar 67 ⟨g, o + 6, none⟩).run Try.prog W = .ok (.agg (cellsB (fT l)).toArray) W) := Lib.hid (fun W hW => hW.load_ckAt (k := 6) (by omega))
  have LK : Hid (∀ W, HasB W W.heap.size (some ⟨g, o, none⟩) n l → (loadVar 23 ⟨g, o + 14, none⟩).run Try.prog W = .ok (.agg (cellsB (fK l)).toArray) W) := Lib.hid (fun W hW => hW.load_idAt (k := 14) (by omega))
  obtain ⟨Ab, hAb⟩ : ∃ Ab, (if 46 + fN l = 46 then some (⟨g, o, none⟩ : Addr) else some ⟨g, o + 46, none⟩) = Ab := ⟨_, rfl⟩
  have WIN : Hid (∀ W, HasB W W.heap.size (some ⟨g, o, none⟩) n l → HasB W W.heap.size Ab (fN l) (fB l)) := Lib.hid (fun W hW => by
    have := hW.window (k := 46) (s := fN l) (by omega) (A' := Ab) (m := fN l) rfl (fun hp => by rw [← hAb, if_neg (by omega)])
    exact this)
  obtain ⟨N, hN⟩ : ∃ N, fN l = N := ⟨_, rfl⟩
  obtain ⟨K, hK⟩ : ∃ K, fK l = K := ⟨_, rfl⟩
  obtain ⟨V, hV⟩ : ∃ V, fB l = V := ⟨_, rfl⟩
  obtain ⟨T, hT⟩ : ∃ T, fT l = T := ⟨_, rfl⟩
  obtain ⟨F, hF⟩ : ∃ F, frS K V = F := ⟨_, rfl⟩
  rw [hN] at h4 h5 he hbl WIN hAb
  rw [hK] at hkl hsl LK
  rw [hV] at hbl hsl WIN
  rw [hT] at htl LT
  rw [hF] at hsl
  rw [hN, hK, hV, hT, hF]
  obtain ⟨E, hE⟩ : ∃ E, 46 + N = E := ⟨_, rfl⟩
  rw [hE] at h5 he hAb ⊢
  obtain ⟨R, hR⟩ : ∃ R : TK, (if F = T then (⟨K, V, E, 0⟩ : TK) else .no 11) = R := ⟨_, rfl⟩
  rw [hR]
  have HR := Lib.hid hR
  clear hR
  have hE1 : 46 ≤ E := by omega
  have hE2 : E ≤ 4246 := by omega
  have hE3 : E ≤ n := by omega
  have hE4 : E - 46 = N := by omega
  have EN := Lib.hid hE4
  have CC : Hid (∀ W (A : Option Addr) (q d : Nat), HasB W W.heap.size A q V → q ≤ d → q ≤ 4200 → Calls Try.prog 32 #[.agg (cellsB K).toArray, .slice A q d] W fun e w' => e = .returned (.agg (cellsB F).toArray) ∧ Below W.heap.size W w') := Lib.hid (fun W A q d hA h1 h2 => by rw [← hF]; exact check_any W A q d K V hA h1 h2 hkl)
  have CE := Lib.hid he
  have HH := Lib.hid h
  have KL := Lib.hid hkl
  have TL := Lib.hid htl
  have FL := Lib.hid hsl
  have VL := Lib.hid hbl
  have IK := Lib.hid (id_iv K hkl)
  have KZ := Lib.hid (id_hz K hkl)
  have IZ := Lib.hid (id_iv (zer 32) rfl)
  have TV := Lib.hid (ck_iv T htl)
  have TZ := Lib.hid (ck_hz T htl)
  have NE : Hid (∀ W, (binOp .neq 67 (.agg (cellsB T).toArray) (.agg (cellsB F).toArray)).run Try.prog W = .ok (.bool (!decide (T = F))) W) := Lib.hid (fun W => neq_ck T F htl hsl W)
  clear hN hK hV hT hF hE h hl hkl htl hbl hsl he hE4 h4 h5
  go_enter Try.func16, Try.ntmps16
  go_upto_region 5 with (first
    | (go_at_call 36; refine CE.out.mono ?_; rintro e w1 ⟨rfl, rfl⟩))
  generalize hW1 : World.alloc _ _ = W1
  have b1 : Below w.heap.size w W1 := by rw [← hW1]; exact (Below.refl _ w).alloc (Nat.le_refl _) _
  have z1 : Bw W1 w.heap.size 23 (zer 32) := by rw [← hW1]; exact Bw.new w (zer 32) _
  have B1 := Lib.hid b1
  have Z1 := Lib.hid z1
  have H1 := Lib.hid (HH.out.on b1)
  clear b1 z1 hW1
  go_cut [9, 10, 11] (fun s9 s10 s11 wx => ∃ g9 g10, s9 = .pointer (some ⟨g9, 0, none⟩) ∧ s10 = .pointer (some ⟨g10, 0, none⟩) ∧ s11 = .slice Ab (E - 46) (E - 46) ∧ w.heap.size < g9 ∧ w.heap.size < g10 ∧ Bw wx g9 67 T ∧ Bw wx g10 23 K ∧ Below W1.heap.size W1 wx)
  case first =>
    go_wp2_with fail
    refine wp_region_held_drew (S := fun W => Below W1.heap.size W1 W) (by kernel_rfl) (Below.refl _ W1).drew (fun hHeld => ?_)
    refine wpAnyH_take (i := 0) (v := ?v0a) (by simp only [List.getElem?_toArray, List.getElem?_cons_succ, List.getElem?_cons_zero]; rfl) (by kernel_rfl) (by kernel_rfl) (by kernel_rfl) (by exact fun _ _ _ h => h) (Or.inl ⟨by rfl, ?h0a⟩) (by assumption) ?_
    case h0a => (intro W hSw; (try dsimp only at hSw); go_simp; try with_reducible rfl)
    try simp only [Act.put, List.setIfInBounds_toArray, List.set_cons_zero, List.set_cons_succ]
    refine wpAnyH_take (i := 1) (v := .slice (some ⟨g, o + 6, none⟩) 8 8) (by simp only [List.getElem?_toArray, List.getElem?_cons_succ, List.getElem?_cons_zero]; rfl) (by kernel_rfl) (by kernel_rfl) (by kernel_rfl) (by exact fun _ _ _ h => h) (Or.inl ⟨by rfl, ?h1a⟩) (by assumption) ?_
    case h1a => (intro W hSw; (try dsimp only at hSw); go_simp; try (first | (rw [if_pos (by omega)]; done) | (rw [if_pos (by omega)]; rfl) | (intro hbad; omega)))
    try simp only [Act.put, List.setIfInBounds_toArray, List.set_cons_zero, List.set_cons_succ]
    refine wpAnyH_take (i := 2) (by simp only [List.getElem?_toArray, List.getElem?_cons_succ, List.getElem?_cons_zero]; rfl) (by kernel_rfl) (by kernel_rfl) (by kernel_rfl) (by exact fun _ _ _ h => h) (yieldsIf_arrAt (by rfl) 67 _ 8 (.tmp 26) rfl Try.underlying67 _ _ _ rfl (Nat.le_refl _)) (by assumption) ?_
    try simp only [Act.put, List.setIfInBounds_toArray, List.set_cons_zero, List.set_cons_succ]
    refine wpAnyH_take (i := 3) (by simp only [List.getElem?_toArray, List.getElem?_cons_succ, List.getElem?_cons_zero]; rfl) (by kernel_rfl) (by kernel_rfl) (by kernel_rfl) (by exact fun _ _ _ h => h) (yieldsIf_loadG (by rfl) 67 (.tmp 27) rfl ⟨g, o + 6, none⟩ rfl _ (fun W hW => LT.out W (H1.out.on hW))) (by assumption) ?_
    try simp only [Act.put, List.setIfInBounds_toArray, List.set_cons_zero, List.set_cons_succ]
    refine wpAnyH_take (i := 4) (v := ?v4a) (by simp only [List.getElem?_toArray, List.getElem?_cons_succ, List.getElem?_cons_zero]; rfl) (by kernel_rfl) (by kernel_rfl) (by kernel_rfl) (by exact fun _ _ _ h => h) (Or.inl ⟨by rfl, ?h4a⟩) (by assumption) ?_
    case h4a => (intro W hSw; (try dsimp only at hSw); go_simp; try with_reducible rfl)
    try simp only [Act.put, List.setIfInBounds_toArray, List.set_cons_zero, List.set_cons_succ]
    refine wpAnyH_take (i := 5) (v := .slice (some ⟨g, o + 14, none⟩) 32 32) (by simp only [List.getElem?_toArray, List.getElem?_cons_succ, List.getElem?_cons_zero]; rfl) (by kernel_rfl) (by kernel_rfl) (by kernel_rfl) (by exact fun _ _ _ h => h) (Or.inl ⟨by rfl, ?h5a⟩) (by assumption) ?_
    case h5a => (intro W hSw; (try dsimp only at hSw); go_simp; try (first | (rw [if_pos (by omega)]; done) | (rw [if_pos (by omega)]; rfl) | (intro hbad; omega)))
    try simp only [Act.put, List.setIfInBounds_toArray, List.set_cons_zero, List.set_cons_succ]
    refine wpAnyH_take (i := 6) (by simp only [List.getElem?_toArray, List.getElem?_cons_succ, List.getElem?_cons_zero]; rfl) (by kernel_rfl) (by kernel_rfl) (by kernel_rfl) (by exact fun _ _ _ h => h) (yieldsIf_arrAt (by rfl) 23 _ 32 (.tmp 30) rfl Try.underlying23 _ _ _ rfl (Nat.le_refl _)) (by assumption) ?_
    try simp only [Act.put, List.setIfInBounds_toArray, List.set_cons_zero, List.set_cons_succ]
    refine wpAnyH_take (i := 7) (by simp only [List.getElem?_toArray, List.getElem?_cons_succ, List.getElem?_cons_zero]; rfl) (by kernel_rfl) (by kernel_rfl) (by kernel_rfl) (by exact fun _ _ _ h => h) (yieldsIf_loadG (by rfl) 23 (.tmp 31) rfl ⟨g, o + 14, none⟩ rfl _ (fun W hW => LK.out W (H1.out.on hW))) (by assumption) ?_
    try simp only [Act.put, List.setIfInBounds_toArray, List.set_cons_zero, List.set_cons_succ]
    refine wpAnyH_take (i := 8) (v := ?v8a) (by simp only [List.getElem?_toArray, List.getElem?_cons_succ, List.getElem?_cons_zero]; rfl) (by kernel_rfl) (by kernel_rfl) (by kernel_rfl) (by exact fun _ _ _ h => h) (Or.inl ⟨by rfl, ?h8a⟩) (by assumption) ?_
    case h8a => (intro W hSw; (try dsimp only at hSw); go_simp; try with_reducible rfl)
    try simp only [Act.put, List.setIfInBounds_toArray, List.set_cons_zero, List.set_cons_succ]
    refine wpAnyH_take (i := 9) (v := .slice Ab (E - 46) (E - 46)) (by simp only [List.getElem?_toArray, List.getElem?_cons_succ, List.getElem?_cons_zero]; rfl) (by kernel_rfl) (by kernel_rfl) (by kernel_rfl) (by exact fun _ _ _ h => h) (Or.inl ⟨by rfl, ?h9a⟩) (by assumption) ?_
    case h9a => (intro W hSw; (try dsimp only at hSw); go_simp; try (first | (rw [if_pos (by omega), hAb]; done) | (rw [if_pos (by omega)]; rfl) | (intro hbad; omega)))
    try simp only [Act.put, List.setIfInBounds_toArray, List.set_cons_zero, List.set_cons_succ]
    have Su0 : Below W1.heap.size W1 W1.drew := (Below.refl _ W1).drew
    obtain ⟨u0, hu0⟩ : ∃ u0, W1.drew = u0 := ⟨_, rfl⟩
    rw [hu0] at Su0 ⊢
    have lw : w.heap.size < W1.heap.size := Z1.out.lt
    clear hu0
    refine wpAnyH_ready (rs := [10, 11]) (by kernel_rfl) (by simp) ?_
    refine AllReadyH.cons (by simp only [List.getElem?_toArray, List.getElem?_cons_succ, List.getElem?_cons_zero]; rfl) (fun Kq hK => ?_) (AllReadyH.cons (by simp only [List.getElem?_toArray, List.getElem?_cons_succ, List.getElem?_cons_zero]; rfl) (fun Kq hK => ?_) AllReadyH.nil)
    · go_simp
      generalize hWa : World.alloc _ _ = u1
      have Su1 : Below W1.heap.size W1 u1 := by rw [← hWa]; exact Below.alloc Su0 Su0.size _
      have nc : Bw u1 u0.heap.size 67 (zer 8) := by rw [← hWa]; exact Bw.new u0 (zer 8) _
      have lc := Su0.size
      have mc : u0.heap.size < u1.heap.size := nc.lt
      clear hWa
      refine hK _ _ Su1 (fun hH10 => ?_)
      clear hK Kq
      try simp only [Act.put, List.setIfInBounds_toArray, List.set_cons_zero, List.set_cons_succ]
      refine wpAnyH_ready (rs := [11]) (by kernel_rfl) (by simp) ?_
      refine AllReadyH.cons (by simp only [List.getElem?_toArray, List.getElem?_cons_succ, List.getElem?_cons_zero]; rfl) (fun Kq hK => ?_) AllReadyH.nil
      go_simp
      generalize hWa : World.alloc _ _ = u2
      have Su2 : Below W1.heap.size W1 u2 := by rw [← hWa]; exact Below.alloc Su1 Su1.size _
      have ni : Bw u2 u1.heap.size 23 (zer 32) := by rw [← hWa]; exact Bw.new u1 (zer 32) _
      have li := Su1.size
      have mi : u1.heap.size < u2.heap.size := ni.lt
      have nc := Bw.below nc (show Below u1.heap.size u1 u2 by rw [← hWa]; exact (Below.refl _ _).alloc (Nat.le_refl _) _) nc.lt
      clear hWa
      refine hK _ _ Su2 (fun hH11 => ?_)
      clear hK Kq
      try simp only [Act.put, List.setIfInBounds_toArray, List.set_cons_zero, List.set_cons_succ]
      refine wpAnyH_ready (rs := [12]) (by kernel_rfl) (by simp) ?_
      refine AllReadyH.cons (by simp only [List.getElem?_toArray, List.getElem?_cons_succ, List.getElem?_cons_zero]; rfl) (fun Kq hK => ?_) AllReadyH.nil
      refine step_store_row (by rfl) 67 (.tmp 9) (.tmp 28) rfl (u0.heap.size) (cellsB T).toArray rfl rfl 67 _ nc TV.out TZ.out (cellsB_all _) ?_
      generalize hWa : World.setRow _ _ _ = u3
      have Su3 : Below W1.heap.size W1 u3 := by rw [← hWa]; exact below_setRow Su2 (by omega) _
      have zc : Bw u3 (u0.heap.size) 67 T := by rw [← hWa]; exact Bw.row (m := T) nc
      have ni := Bw.rowFar ni (show u1.heap.size ≠ u0.heap.size by omega) (cellsB T).toArray
      rw [hWa] at ni
      skip
      clear hWa
      refine hK _ _ Su3 (fun hH12 => ?_)
      clear hK Kq
      try simp only [Act.put, List.setIfInBounds_toArray, List.set_cons_zero, List.set_cons_succ]
      refine wpAnyH_ready (rs := [13]) (by kernel_rfl) (by simp) ?_
      refine AllReadyH.cons (by simp only [List.getElem?_toArray, List.getElem?_cons_succ, List.getElem?_cons_zero]; rfl) (fun Kq hK => ?_) AllReadyH.nil
      refine step_store_row (by rfl) 23 (.tmp 10) (.tmp 32) rfl (u1.heap.size) (cellsB K).toArray rfl rfl 23 _ ni IK.out KZ.out (cellsB_all _) ?_
      generalize hWa : World.setRow _ _ _ = u4
      have Su4 : Below W1.heap.size W1 u4 := by rw [← hWa]; exact below_setRow Su3 (by omega) _
      have zi : Bw u4 (u1.heap.size) 23 K := by rw [← hWa]; exact Bw.row (m := K) ni
      have zc := Bw.rowFar zc (show u0.heap.size ≠ u1.heap.size by omega) (cellsB K).toArray
      rw [hWa] at zc
      clear hWa
      refine hK _ _ Su4 (fun hH13 => ?_)
      clear hK Kq
      try simp only [Act.put, List.setIfInBounds_toArray, List.set_cons_zero, List.set_cons_succ]
      refine wpAnyH_take (i := 14) (v := ?v14g1) (by simp only [List.getElem?_toArray, List.getElem?_cons_succ, List.getElem?_cons_zero]; rfl) (by kernel_rfl) (by kernel_rfl) (by kernel_rfl) (by exact fun _ _ _ h => h) (Or.inl ⟨by rfl, ?h14g1⟩) (by assumption) ?_
      case h14g1 => (intro W hSw; (try dsimp only at hSw); go_simp; try with_reducible rfl)
      try simp only [Act.put, List.setIfInBounds_toArray, List.set_cons_zero, List.set_cons_succ]
      refine wpAnyH_done (by kernel_rfl) ?_ _
      go_wp2_with fail
      go_meet
      exact ⟨u0.heap.size, u1.heap.size, rfl, rfl, rfl, by omega, by omega, zc, zi, Su4⟩
    · go_simp
      generalize hWa : World.alloc _ _ = u1
      have Su1 : Below W1.heap.size W1 u1 := by rw [← hWa]; exact Below.alloc Su0 Su0.size _
      have ni : Bw u1 u0.heap.size 23 (zer 32) := by rw [← hWa]; exact Bw.new u0 (zer 32) _
      have li := Su0.size
      have mi : u0.heap.size < u1.heap.size := ni.lt
      clear hWa
      refine hK _ _ Su1 (fun hH11 => ?_)
      clear hK Kq
      try simp only [Act.put, List.setIfInBounds_toArray, List.set_cons_zero, List.set_cons_succ]
      refine wpAnyH_ready (rs := [10]) (by kernel_rfl) (by simp) ?_
      refine AllReadyH.cons (by simp only [List.getElem?_toArray, List.getElem?_cons_succ, List.getElem?_cons_zero]; rfl) (fun Kq hK => ?_) AllReadyH.nil
      go_simp
      generalize hWa : World.alloc _ _ = u2
      have Su2 : Below W1.heap.size W1 u2 := by rw [← hWa]; exact Below.alloc Su1 Su1.size _
      have nc : Bw u2 u1.heap.size 67 (zer 8) := by rw [← hWa]; exact Bw.new u1 (zer 8) _
      have lc := Su1.size
      have mc : u1.heap.size < u2.heap.size := nc.lt
      have ni := Bw.below ni (show Below u1.heap.size u1 u2 by rw [← hWa]; exact (Below.refl _ _).alloc (Nat.le_refl _) _) ni.lt
      clear hWa
      refine hK _ _ Su2 (fun hH10 => ?_)
      clear hK Kq
      try simp only [Act.put, List.setIfInBounds_toArray, List.set_cons_zero, List.set_cons_succ]
      refine wpAnyH_ready (rs := [12]) (by kernel_rfl) (by simp) ?_
      refine AllReadyH.cons (by simp only [List.getElem?_toArray, List.getElem?_cons_succ, List.getElem?_cons_zero]; rfl) (fun Kq hK => ?_) AllReadyH.nil
      refine step_store_row (by rfl) 67 (.tmp 9) (.tmp 28) rfl (u1.heap.size) (cellsB T).toArray rfl rfl 67 _ nc TV.out TZ.out (cellsB_all _) ?_
      generalize hWa : World.setRow _ _ _ = u3
      have Su3 : Below W1.heap.size W1 u3 := by rw [← hWa]; exact below_setRow Su2 (by omega) _
      have zc : Bw u3 (u1.heap.size) 67 T := by rw [← hWa]; exact Bw.row (m := T) nc
      have ni := Bw.rowFar ni (show u0.heap.size ≠ u1.heap.size by omega) (cellsB T).toArray
      rw [hWa] at ni
      skip
      clear hWa
      refine hK _ _ Su3 (fun hH12 => ?_)
      clear hK Kq
      try simp only [Act.put, List.setIfInBounds_toArray, List.set_cons_zero, List.set_cons_succ]
      refine wpAnyH_ready (rs := [13]) (by kernel_rfl) (by simp) ?_
      refine AllReadyH.cons (by simp only [List.getElem?_toArray, List.getElem?_cons_succ, List.getElem?_cons_zero]; rfl) (fun Kq hK => ?_) AllReadyH.nil
      refine step_store_row (by rfl) 23 (.tmp 10) (.tmp 32) rfl (u0.heap.size) (cellsB K).toArray rfl rfl 23 _ ni IK.out KZ.out (cellsB_all _) ?_
      generalize hWa : World.setRow _ _ _ = u4
      have Su4 : Below W1.heap.size W1 u4 := by rw [← hWa]; exact below_setRow Su3 (by omega) _
      have zi : Bw u4 (u0.heap.size) 23 K := by rw [← hWa]; exact Bw.row (m := K) ni
      have zc := Bw.rowFar zc (show u1.heap.size ≠ u0.heap.size by omega) (cellsB K).toArray
      rw [hWa] at zc
      clear hWa
      refine hK _ _ Su4 (fun hH13 => ?_)
      clear hK Kq
      try simp only [Act.put, List.setIfInBounds_toArray, List.set_cons_zero, List.set_cons_succ]
      refine wpAnyH_take (i := 14) (v := ?v14g2) (by simp only [List.getElem?_toArray, List.getElem?_cons_succ, List.getElem?_cons_zero]; rfl) (by kernel_rfl) (by kernel_rfl) (by kernel_rfl) (by exact fun _ _ _ h => h) (Or.inl ⟨by rfl, ?h14g2⟩) (by assumption) ?_
      case h14g2 => (intro W hSw; (try dsimp only at hSw); go_simp; try with_reducible rfl)
      try simp only [Act.put, List.setIfInBounds_toArray, List.set_cons_zero, List.set_cons_succ]
      refine wpAnyH_done (by kernel_rfl) ?_ _
      go_wp2_with fail
      go_meet
      exact ⟨u1.heap.size, u0.heap.size, rfl, rfl, rfl, by omega, by omega, zc, zi, Su4⟩
  case rest =>
    obtain ⟨g9, g10, rfl, rfl, rfl, hg9, hg10, k9, k10, bx⟩ := hcut
    rw [EN.out]
    have K9 := Lib.hid k9
    have K10 := Lib.hid k10
    have Z2 := Lib.hid (Z1.out.below bx Z1.out.lt)
    have B2 := Lib.hid (B1.out.trans (bx.mono B1.out.size))
    have H2 := Lib.hid (WIN.out _ (H1.out.on bx))
    have hN : N ≤ 4200 := by have := EN.out; omega
    clear k9 k10 bx
    by_cases hq : F = T
    · have HQ := Lib.hid hq
      have NE2 : Hid (∀ W, (binOp .neq 67 (.agg (cellsB T).toArray) (.agg (cellsB F).toArray)).run Try.prog W = .ok (.bool false) W) := Lib.hid (fun W => by rw [NE.out W, decide_eq_true hq.symm]; rfl)
      have EN2 : Hid (E = 46 + N) := Lib.hid (by have := EN.out; omega)
      clear hq
      go_wp2_with fail
      refine wp_region_held_drew (S := fun W => Below wc.heap.size wc W) (by kernel_rfl) (Below.refl _ wc).drew (fun hHeld => ?_)
      refine wpAnyH_take (i := 0) (by simp only [List.getElem?_toArray, List.getElem?_cons_succ, List.getElem?_cons_zero]; rfl) (by kernel_rfl) (by kernel_rfl) (by kernel_rfl) (by exact fun _ _ _ h => h) (yieldsIf_loadG (by rfl) 67 (.tmp 9) rfl ⟨g9, 0, none⟩ rfl _ (fun W hW => (K9.out.below hW K9.out.lt).loadCk TL.out)) (by assumption) ?_
      try simp only [Act.put, List.setIfInBounds_toArray, List.set_cons_zero, List.set_cons_succ]
      refine wpAnyH_take (i := 1) (by simp only [List.getElem?_toArray, List.getElem?_cons_succ, List.getElem?_cons_zero]; rfl) (by kernel_rfl) (by kernel_rfl) (by kernel_rfl) (by exact fun _ _ _ h => h) (yieldsIf_loadG (by rfl) 23 (.tmp 10) rfl ⟨g10, 0, none⟩ rfl _ (fun W hW => (K10.out.below hW K10.out.lt).load KL.out)) (by assumption) ?_
      try simp only [Act.put, List.setIfInBounds_toArray, List.set_cons_zero, List.set_cons_succ]
      refine wpAnyH_take (i := 2) (v := ?v2b) (by simp only [List.getElem?_toArray, List.getElem?_cons_succ, List.getElem?_cons_zero]; rfl) (by kernel_rfl) (by kernel_rfl) (by kernel_rfl) (by exact fun _ _ _ h => h) (Or.inl ⟨by rfl, ?h2b⟩) (by assumption) ?_
      case h2b => (intro W hSw; (try dsimp only at hSw); go_simp; try with_reducible rfl)
      try simp only [Act.put, List.setIfInBounds_toArray, List.set_cons_zero, List.set_cons_succ]
      refine wpAnyH_ready (rs := [3]) (by kernel_rfl) (by simp) ?_
      refine AllReadyH.cons (by simp only [List.getElem?_toArray, List.getElem?_cons_succ, List.getElem?_cons_zero]; rfl) (fun Kq hK => ?_) AllReadyH.nil
      go_simp
      refine (CC.out _ _ N N (H2.out.on (Below.refl _ wc).drew) (Nat.le_refl _) hN).mono ?_
      rintro en w6 ⟨rfl, b6⟩
      have S6 : Below wc.heap.size wc w6 := ((Below.refl wc.heap.size wc).drew).trans (b6.mono (Nat.le_refl _))
      refine hK _ _ S6 (fun hH3 => ?_)
      clear hK Kq
      try simp only [Act.put, List.setIfInBounds_toArray, List.set_cons_zero, List.set_cons_succ]
      refine wpAnyH_take (i := 4) (by simp only [List.getElem?_toArray, List.getElem?_cons_succ, List.getElem?_cons_zero]; rfl) (by kernel_rfl) (by kernel_rfl) (by kernel_rfl) (by exact fun _ _ _ h => h) (yieldsIf_bin (by rfl) .neq 67 67 (.tmp 35) (.tmp 38) rfl (.agg (cellsB T).toArray) (.agg (cellsB F).toArray) (.bool false) rfl rfl (guard_neq_ck _ _ _ _) (fun W => NE2.out W)) (by assumption) ?_
      try simp only [Act.put, List.setIfInBounds_toArray, List.set_cons_zero, List.set_cons_succ]
      refine wpAnyH_done (by kernel_rfl) ?_ _
      have Z6 := Lib.hid (Z2.out.below S6 Z2.out.lt)
      have K6 := Lib.hid (K10.out.below S6 K10.out.lt)
      have B6 := Lib.hid (B2.out.trans (S6.mono B2.out.size))
      have H6 := Lib.hid (H2.out.on S6)
      have L6 : w.heap.size < w6.heap.size := Z6.out.lt
      clear S6 b6
      go_wp2_with fail
      have hS0 : Bw w6.drew g10 23 K := K6.out
      refine wp_region_held_drew (S := fun W => Bw W g10 23 K) (by kernel_rfl) hS0 (fun hHeld => ?_)
      refine wpAnyH_take (i := 0) (by simp only [List.getElem?_toArray, List.getElem?_cons_succ, List.getElem?_cons_zero]; rfl) (by kernel_rfl) (by kernel_rfl) (by kernel_rfl) (by exact fun _ _ _ h => h) (yieldsIf_loadG (by rfl) 23 (.tmp 10) rfl ⟨g10, 0, none⟩ rfl _ (fun W hW => hW.load KL.out)) (by assumption) ?_
      try simp only [Act.put, List.setIfInBounds_toArray, List.set_cons_zero, List.set_cons_succ]
      refine wpAnyH_take (i := 1) (v := ?v1d) (by simp only [List.getElem?_toArray, List.getElem?_cons_succ, List.getElem?_cons_zero]; rfl) (by kernel_rfl) (by kernel_rfl) (by kernel_rfl) (by exact fun _ _ _ h => h) (Or.inl ⟨by rfl, ?h1d⟩) (by assumption) ?_
      case h1d => (intro W hSw; (try dsimp only at hSw); go_simp; try with_reducible rfl)
      try simp only [Act.put, List.setIfInBounds_toArray, List.set_cons_zero, List.set_cons_succ]
      refine wpAnyH_take (i := 3) (v := ?v3d) (by simp only [List.getElem?_toArray, List.getElem?_cons_succ, List.getElem?_cons_zero]; rfl) (by kernel_rfl) (by kernel_rfl) (by kernel_rfl) (by exact fun _ _ _ h => h) (Or.inl ⟨by rfl, ?h3d⟩) (by assumption) ?_
      case h3d => (intro W hSw; (try dsimp only at hSw); go_simp; try with_reducible rfl)
      try simp only [Act.put, List.setIfInBounds_toArray, List.set_cons_zero, List.set_cons_succ]
      refine wpAnyH_ready (rs := [2]) (by kernel_rfl) (by simp) ?_
      refine AllReadyH.cons (by simp only [List.getElem?_toArray, List.getElem?_cons_succ, List.getElem?_cons_zero]; rfl) (fun Kq hK => ?_) AllReadyH.nil
      go_simp
      refine (bclone_any _ _ _ V _ (H6.out.on (Below.refl _ w6).drew) (by omega)).mono ?_
      rintro en w7 ⟨A7, n7, c7, rfl, o7, b7⟩
      have b67 : Below w6.heap.size w6 w7 := ((Below.refl w6.heap.size w6).drew).trans (b7.mono (Nat.le_refl _))
      have K7 : Bw w7 g10 23 K := K6.out.below b67 K6.out.lt
      refine hK _ _ K7 (fun hH2 => ?_)
      clear hK Kq
      try simp only [Act.put, List.setIfInBounds_toArray, List.set_cons_zero, List.set_cons_succ]
      refine wpAnyH_ready (rs := [4]) (by kernel_rfl) (by simp) ?_
      refine AllReadyH.cons (by simp only [List.getElem?_toArray, List.getElem?_cons_succ, List.getElem?_cons_zero]; rfl) (fun Kq hK => ?_) AllReadyH.nil
      have QZ := Z6.out.below b67 Z6.out.lt
      refine step_store_row (by rfl) 23 (.tmp 2) (.tmp 41) rfl w.heap.size (cellsB K).toArray rfl rfl 23 _ QZ IK.out KZ.out (cellsB_all _) ?_
      have K8 : Bw (w7.setRow w.heap.size (cellsB K).toArray) g10 23 K := Bw.rowFar K7 (by omega) _
      refine hK _ _ K8 (fun hH4 => ?_)
      clear hK Kq
      try simp only [Act.put, List.setIfInBounds_toArray, List.set_cons_zero, List.set_cons_succ]
      refine wpAnyH_take (i := 5) (v := ?v5e) (by simp only [List.getElem?_toArray, List.getElem?_cons_succ, List.getElem?_cons_zero]; rfl) (by kernel_rfl) (by kernel_rfl) (by kernel_rfl) (by exact fun _ _ _ h => h) (Or.inl ⟨by rfl, ?h5e⟩) (by assumption) ?_
      case h5e => (intro W hSw; (try dsimp only at hSw); go_simp; try with_reducible rfl)
      try simp only [Act.put, List.setIfInBounds_toArray, List.set_cons_zero, List.set_cons_succ]
      refine wpAnyH_take (i := 6) (v := ?v6e) (by simp only [List.getElem?_toArray, List.getElem?_cons_succ, List.getElem?_cons_zero]; rfl) (by kernel_rfl) (by kernel_rfl) (by kernel_rfl) (by exact fun _ _ _ h => h) (Or.inl ⟨by rfl, ?h6e⟩) (by assumption) ?_
      case h6e => (intro W hSw; (try dsimp only at hSw); go_simp; try with_reducible rfl)
      try simp only [Act.put, List.setIfInBounds_toArray, List.set_cons_zero, List.set_cons_succ]
      refine wpAnyH_take (i := 7) (v := ?v7e) (by simp only [List.getElem?_toArray, List.getElem?_cons_succ, List.getElem?_cons_zero]; rfl) (by kernel_rfl) (by kernel_rfl) (by kernel_rfl) (by exact fun _ _ _ h => h) (Or.inl ⟨by rfl, ?h7e⟩) (by assumption) ?_
      case h7e => (intro W hSw; (try dsimp only at hSw); go_simp; try with_reducible rfl)
      try simp only [Act.put, List.setIfInBounds_toArray, List.set_cons_zero, List.set_cons_succ]
      refine wpAnyH_done (by kernel_rfl) ?_ _
      go_wp2_with fail
      have Z8 := setRow_heap _ _ _ (cellsB K).toArray 23 _ QZ
      have O8 : OwnB (w7.setRow w.heap.size (cellsB K).toArray) w.heap.size (.slice A7 n7 c7) V := (o7.rowFar (show w.heap.size < w6.heap.size from L6) _).less (show w.heap.size ≤ w6.heap.size by omega)
      have B8 : Below w.heap.size w (w7.setRow w.heap.size (cellsB K).toArray) := below_setRow (B6.out.trans (b67.mono B6.out.size)) (Nat.le_refl _) _
      refine bodyPost_ret (v := .tuple #[.agg (cellsB K).toArray, .slice A7 n7 c7, .int .i64 (E : Int), .int .i64 0]) ?_ (by rfl) ?_
      · exact results_cell_row4 (p := 2) (u := 3) (v := 4) (y := 5) (ty := 23) rfl _ _ w.heap.size 23 (cellsB K).toArray _ _ rfl Z8 Try.underlying23 rfl IK.out _ _ _ rfl rfl rfl
      · rw [← HR.out, if_pos HQ.out]
        exact ⟨A7, n7, c7, rfl, O8, B8⟩
    · have HQ := Lib.hid hq
      have NE2 : Hid (∀ W, (binOp .neq 67 (.agg (cellsB T).toArray) (.agg (cellsB F).toArray)).run Try.prog W = .ok (.bool true) W) := Lib.hid (fun W => by rw [NE.out W, decide_eq_false (fun h => hq h.symm)]; rfl)
      clear hq
      go_wp2_with fail
      refine wp_region_held_drew (S := fun W => Below wc.heap.size wc W) (by kernel_rfl) (Below.refl _ wc).drew (fun hHeld => ?_)
      refine wpAnyH_take (i := 0) (by simp only [List.getElem?_toArray, List.getElem?_cons_succ, List.getElem?_cons_zero]; rfl) (by kernel_rfl) (by kernel_rfl) (by kernel_rfl) (by exact fun _ _ _ h => h) (yieldsIf_loadG (by rfl) 67 (.tmp 9) rfl ⟨g9, 0, none⟩ rfl _ (fun W hW => (K9.out.below hW K9.out.lt).loadCk TL.out)) (by assumption) ?_
      try simp only [Act.put, List.setIfInBounds_toArray, List.set_cons_zero, List.set_cons_succ]
      refine wpAnyH_take (i := 1) (by simp only [List.getElem?_toArray, List.getElem?_cons_succ, List.getElem?_cons_zero]; rfl) (by kernel_rfl) (by kernel_rfl) (by kernel_rfl) (by exact fun _ _ _ h => h) (yieldsIf_loadG (by rfl) 23 (.tmp 10) rfl ⟨g10, 0, none⟩ rfl _ (fun W hW => (K10.out.below hW K10.out.lt).load KL.out)) (by assumption) ?_
      try simp only [Act.put, List.setIfInBounds_toArray, List.set_cons_zero, List.set_cons_succ]
      refine wpAnyH_take (i := 2) (v := ?v2c) (by simp only [List.getElem?_toArray, List.getElem?_cons_succ, List.getElem?_cons_zero]; rfl) (by kernel_rfl) (by kernel_rfl) (by kernel_rfl) (by exact fun _ _ _ h => h) (Or.inl ⟨by rfl, ?h2c⟩) (by assumption) ?_
      case h2c => (intro W hSw; (try dsimp only at hSw); go_simp; try with_reducible rfl)
      try simp only [Act.put, List.setIfInBounds_toArray, List.set_cons_zero, List.set_cons_succ]
      refine wpAnyH_ready (rs := [3]) (by kernel_rfl) (by simp) ?_
      refine AllReadyH.cons (by simp only [List.getElem?_toArray, List.getElem?_cons_succ, List.getElem?_cons_zero]; rfl) (fun Kq hK => ?_) AllReadyH.nil
      go_simp
      refine (CC.out _ _ N N (H2.out.on (Below.refl _ wc).drew) (Nat.le_refl _) hN).mono ?_
      rintro en w6 ⟨rfl, b6⟩
      have S6 : Below wc.heap.size wc w6 := ((Below.refl wc.heap.size wc).drew).trans (b6.mono (Nat.le_refl _))
      refine hK _ _ S6 (fun hH3 => ?_)
      clear hK Kq
      try simp only [Act.put, List.setIfInBounds_toArray, List.set_cons_zero, List.set_cons_succ]
      refine wpAnyH_take (i := 4) (by simp only [List.getElem?_toArray, List.getElem?_cons_succ, List.getElem?_cons_zero]; rfl) (by kernel_rfl) (by kernel_rfl) (by kernel_rfl) (by exact fun _ _ _ h => h) (yieldsIf_bin (by rfl) .neq 67 67 (.tmp 35) (.tmp 38) rfl (.agg (cellsB T).toArray) (.agg (cellsB F).toArray) (.bool true) rfl rfl (guard_neq_ck _ _ _ _) (fun W => NE2.out W)) (by assumption) ?_
      try simp only [Act.put, List.setIfInBounds_toArray, List.set_cons_zero, List.set_cons_succ]
      refine wpAnyH_done (by kernel_rfl) ?_ _
      have Z6 := Lib.hid (Z2.out.below S6 Z2.out.lt)
      have K6 := Lib.hid (K10.out.below S6 K10.out.lt)
      have B6 := Lib.hid (B2.out.trans (S6.mono B2.out.size))
      have H6 := Lib.hid (H2.out.on S6)
      have L6 : w.heap.size < w6.heap.size := Z6.out.lt
      clear S6 b6
      go_wp2_with (first
        | (refine wpList_buildG rfl 23 rfl (cellsB (zer 32)).toArray built_id ?_)
        | (refine wpList_store_row rfl 23 (.tmp 2) (.tmp 40) rfl w.heap.size (cellsB (zer 32)).toArray rfl rfl 23 _ Z6.out IZ.out rfl (cellsB_ones _) ?_))
      refine bodyPost_ret (v := .tuple #[.agg (cellsB (zer 32)).toArray, .slice none 0 0, .int .i64 0, .int .i64 11]) ?_ (by rfl) ?_
      · exact results_cell_row4 (p := 2) (u := 3) (v := 4) (y := 5) (ty := 23) rfl _ _ w.heap.size 23 (cellsB (zer 32)).toArray _ _ rfl (setRow_heap _ _ _ _ 23 _ Z6.out) Try.underlying23 rfl IZ.out _ _ _ rfl rfl rfl
      · rw [← HR.out, if_neg HQ.out]
        exact ⟨none, 0, 0, rfl, OwnB.nil _ _, below_setRow B6.out (Nat.le_refl _) _⟩
set_option maxRecDepth 100000 in
theorem ftake_any (w : World) (A : Option Addr) (n c : Nat) (l : List UInt8) (h : HasB w w.heap.size A n l) (hc : n ≤ c) (hcm : c ≤ maxLen) (hn : n ≤ 1073741824) :
    Calls Try.prog 16 #[.slice A n c] w (RetTk w (ftake l)) := by
  have hl := h.len
  have he := end_any A n c l (w.alloc (.cells (cellsB (zer 32)).toArray 23)) (h.on ((Below.refl _ w).alloc (Nat.le_refl _) _)) hc hcm hn
  by_cases hC : fC l
  · rw [ftake_good l hC]
    obtain ⟨g, o, rfl, hg, _⟩ := h.2 (by have := hC.1; omega)
    refine ftake_yes w g o n c l h hc (by unfold maxLen at hcm; omega) hn hC.2.2.2.1 hC.2.2.2.2 (he.mono ?_)
    rintro en w1 ⟨h0, h1⟩
    rcases h1 with ⟨nc, _⟩ | ⟨h1, _⟩
    · exact absurd hC nc
    · exact ⟨h0, h1⟩
  · obtain ⟨k, hk, hf⟩ := ftake_bad l hC
    refine ftake_no w A n c l k hk hf (he.mono ?_)
    rintro en w1 ⟨h0, h1⟩
    rcases h1 with ⟨_, k', hk', h1, hf'⟩ | ⟨_, hC'⟩
    · rw [hf] at hf'
      have : k = k' := congrArg TK.e hf'
      rw [this]
      exact ⟨h0, h1⟩
    · exact absurd hC' hC
/-- The program's frames. -/
theorem theFK : FK where
  size_any := fun w n hn => (fsize_any w n hn).mono fun e w' h => ⟨h.1, by rw [← h.2]; exact Below.refl _ _⟩
  put_any := fun w A n c key l h hc hcm hn hk => fput_any w A n c key l h hc hn hk
  take_any := fun w A n c l h hc hcm hn => ftake_any w A n c l h hc hcm hn
end Go.Proofs.Ytadagbkfemcgfaa
