/-
  Own work. newest and Open where there is no disk.
-/
import Derived.Test.YtkbbpkbchniddaaNn6
namespace Go.Proofs.Ytkbbpkbchniddaa
open Go.RowKit Go.Maps
set_option linter.unusedVariables false
set_option linter.unusedSimpArgs false

theorem tagOf_zsec' : markS zsec = ⟨0, 0, 0, 0⟩ ∧ markB 0 zsec = false := by
  refine ⟨?_, zsec_bad 0⟩
  have h1 : num (sub zsec 8 8) = 0 := by decide +kernel
  have h2 : num (sub zsec 16 4) = 0 := by decide +kernel
  have h3 : num (sub zsec 20 4) = 0 := by decide +kernel
  unfold markS
  rw [tagOf_zsec, h1, h2, h3]
theorem load_ptrn {W : World} {ad : Addr} (h : W.cell? ad = some (.pointer none)) : (loadVar 26 ad).run Try.prog W = .ok (.pointer none) W := by
  simp [loadVar, isAgg, run_underlying Try.underlying26, go_sem, h]
section
variable {w : World} {g : Nat} {cs : Array Value} {e : Int}
/-- Behind k reads. -/
def NoR (w wr : World) (g : Nat) (cs : Array Value) (e : Int) (W : World) : Prop := NoB W g cs e ∧ Only (fun q => q = g ∨ wr.heap.size ≤ q) wr W
theorem NoR.below {wr W W' : World} (h : NoR w wr g cs e W) (hb : Below W.heap.size W W') : NoR w wr g cs e W' := ⟨h.1.below hb, h.2.trans (Only.of_below hb (Nat.le_refl _))⟩
theorem NoR.read {wr W W' : World} (h : NoR w wr g cs e W) (h1 : NoB W' g cs 1) (h2 : Only (fun k => k = g) W W') : NoR w wr g cs 1 W' := ⟨h1, h.2.trans (h2.mono (fun q _ hq => .inl hq))⟩
theorem NoR.row {wr W W' : World} {gm : Nat} (h : NoR w wr g cs e W) (hgm : wr.heap.size ≤ gm) (hg : g < wr.heap.size) (h2 : Only (fun k => k = gm) W W') : NoR w wr g cs e W' := ⟨h.1.only h2 (show ¬ g = gm by omega), h.2.trans (h2.mono (fun q _ hq => .inr (by omega)))⟩
set_option maxRecDepth 100000 in
set_option maxHeartbeats 2000000 in
theorem newest_nil (h : NoB w g cs e) (he : e = 0 ∨ e = 1) : Calls Try.prog 52 #[.pointer (some ⟨g, 0, none⟩)] w (fun en W => en = .returned (.agg (mkC ⟨0, 0, 0, 0⟩)) ∧ NoB W g cs 1 ∧ Only (fun q => q = g) w W) := by
  obtain ⟨w0, hw0⟩ : ∃ w0, (w.alloc (.cells #[.int .u64 0, .int .u64 0, .int .u32 0, .int .u32 0] 62)).alloc (.cells #[.int .u64 0, .int .u64 0, .int .u32 0, .int .u32 0] 62) = w0 := ⟨_, rfl⟩
  have hb : Below w.heap.size w w0 := by rw [← hw0]; exact ((Below.refl _ _).alloc (Nat.le_refl _) _).alloc (by simp) _
  have hr : w0.heap[w.heap.size]? = some (.cells (mkC ⟨0, 0, 0, 0⟩) 62 (0, 0)) := by
    rw [← hw0]
    exact (Below.heap_alloc _ _ _ (by simp)).trans (heap_alloc_new w _)
  have hv : w0.heap[w.heap.size + 1]? = some (.cells (mkC ⟨0, 0, 0, 0⟩) 62 (0, 0)) := by
    rw [← hw0]
    have := heap_alloc_new (w.alloc (.cells #[.int .u64 0, .int .u64 0, .int .u32 0, .int .u32 0] 62)) (.cells #[.int .u64 0, .int .u64 0, .int .u32 0, .int .u32 0] 62)
    simpa [mkC] using this
  have hlt : g < w.heap.size := h.lt
  have H0 := Lib.hid (h.below hb)
  have W0 := Lib.hid hw0
  have B0 := Lib.hid hb
  have HR := Lib.hid hr
  have HV := Lib.hid hv
  have HE := Lib.hid he
  have CM : Hid (∀ W, Calls Try.prog 74 #[.agg (cellsB zsec).toArray, .pointer none] W (RetMk W ⟨0, 0, 0, 0⟩ false)) := Lib.hid (fun W => by have := markOf_nil W; rwa [tagOf_zsec'.1, tagOf_zsec'.2] at this)
  have CR : Hid (∀ (k : Nat) e W, k < 2 → NoB W g cs e → (e = 0 ∨ e = 1) → Calls Try.prog 63 #[.pointer (some ⟨g, 0, none⟩), .int .i64 (k : Int)] W (RetN W g cs)) := Lib.hid (fun k e W hk h he => pord_nil k hk h he)
  clear h hb hw0 hr hv he
  go_enter Try.func52, Try.ntmps52
  go_upto_region 2 with fail
  rw [W0.out]
  go_wp2_with fail
  go_loopw [7] (fun i wr => ∃ (k : Nat) (e : Int), k ≤ 2 ∧ i = .int .i64 (k : Int) ∧ (e = 0 ∨ e = 1) ∧ (1 ≤ k → e = 1) ∧ NoB wr g cs e ∧ wr.heap[w.heap.size + 1]? = some (.cells (mkC ⟨0, 0, 0, 0⟩) 62 (0, 0)) ∧ wr.heap[w.heap.size]? = some (.cells (mkC ⟨0, 0, 0, 0⟩) 62 (0, 0)) ∧ Only (fun q => q = g ∨ w.heap.size ≤ q) w wr) (fun i _ => 2 - (Go.RowKit.intOf i).toNat)
  case atStart => exact ⟨0, e, by omega, rfl, HE.out, fun hh => absurd hh (by omega), H0.out, HV.out, HR.out, Only.of_below B0.out (Nat.le_refl _)⟩
  case round =>
    obtain ⟨k, e', hk, rfl, he', hke, qn, qv, qr, qo⟩ := hrel
    have QN := Lib.hid qn
    have QV := Lib.hid qv
    have QR := Lib.hid qr
    have QO := Lib.hid qo
    have QE := Lib.hid he'
    have hgw : g < wr.heap.size := qn.lt
    have hdrew : wr.drew.heap.size = wr.heap.size := rfl
    have hvw : w.heap.size + 1 < wr.heap.size := (Array.getElem?_eq_some_iff.1 qv).1
    by_cases hlt' : k < 2
    · have R0 : Hid (NoR w wr g cs e' wr.drew) := Lib.hid ⟨⟨qn.1, qn.2⟩, (Only.refl _ wr).drew⟩
      clear qn qv qr qo he' hke
      go_upto_region 5 with fail
      go_cut [5, 6] (fun s5 s6 wx => ∃ gm, s5 = .pointer (some ⟨gm, 0, none⟩) ∧ s6 = .bool false ∧ NoR w wr g cs 1 wx)
      case first =>
        go_wp2_with fail
        refine wp_region_held_drew (S := fun W => W.cell? ⟨g, 0, none⟩ = some (.pointer none)) (by kernel_rfl) R0.out.1.c0 (fun hHeld => ?_)
        refine wpAnyH_take (i := 0) (v := ?v0a) (by simp only [List.getElem?_toArray, List.getElem?_cons_succ, List.getElem?_cons_zero]; rfl) (by kernel_rfl) (by kernel_rfl) (by kernel_rfl) (by exact fun _ _ _ h => h) (Or.inl ⟨by rfl, ?h0a⟩) (by assumption) ?_
        case h0a => (intro W hSw; (try dsimp only at hSw); go_simp; try with_reducible rfl)
        try simp only [Act.put, List.setIfInBounds_toArray, List.set_cons_zero, List.set_cons_succ]
        refine wpAnyH_take (i := 1) (v := ?v1a) (by simp only [List.getElem?_toArray, List.getElem?_cons_succ, List.getElem?_cons_zero]; rfl) (by kernel_rfl) (by kernel_rfl) (by kernel_rfl) (by exact fun _ _ _ h => h) (Or.inl ⟨by rfl, ?h1a⟩) (by assumption) ?_
        case h1a => (intro W hSw; (try dsimp only at hSw); go_simp; try with_reducible rfl)
        try simp only [Act.put, List.setIfInBounds_toArray, List.set_cons_zero, List.set_cons_succ]
        refine wpAnyH_take (i := 2) (v := ?v2a) (by simp only [List.getElem?_toArray, List.getElem?_cons_succ, List.getElem?_cons_zero]; rfl) (by kernel_rfl) (by kernel_rfl) (by kernel_rfl) (by exact fun _ _ _ h => h) (Or.inl ⟨by rfl, ?h2a⟩) (by assumption) ?_
        case h2a => (intro W hSw; (try dsimp only at hSw); go_simp; try with_reducible rfl)
        try simp only [Act.put, List.setIfInBounds_toArray, List.set_cons_zero, List.set_cons_succ]
        refine wpAnyH_take (i := 3) (v := ?v3a) (by simp only [List.getElem?_toArray, List.getElem?_cons_succ, List.getElem?_cons_zero]; rfl) (by kernel_rfl) (by kernel_rfl) (by kernel_rfl) (by exact fun _ _ _ h => h) (Or.inl ⟨by rfl, ?h3a⟩) (by assumption) ?_
        case h3a => (intro W hSw; (try dsimp only at hSw); go_simp; try with_reducible rfl)
        try simp only [Act.put, List.setIfInBounds_toArray, List.set_cons_zero, List.set_cons_succ]
        refine wpAnyH_take (i := 5) (v := ?v5a) (by simp only [List.getElem?_toArray, List.getElem?_cons_succ, List.getElem?_cons_zero]; rfl) (by kernel_rfl) (by kernel_rfl) (by kernel_rfl) (by exact fun _ _ _ h => h) (Or.inl ⟨by rfl, ?h5a⟩) (by assumption) ?_
        case h5a => (intro W hSw; (try dsimp only at hSw); go_simp; try with_reducible rfl)
        try simp only [Act.put, List.setIfInBounds_toArray, List.set_cons_zero, List.set_cons_succ]
        refine wpAnyH_take (i := 6) (v := ?v6a) (by simp only [List.getElem?_toArray, List.getElem?_cons_succ, List.getElem?_cons_zero]; rfl) (by kernel_rfl) (by kernel_rfl) (by kernel_rfl) (by exact fun _ _ _ h => h) (Or.inl ⟨by rfl, ?h6a⟩) (by assumption) ?_
        case h6a => (intro W hSw; (try dsimp only at hSw); go_simp; try with_reducible rfl)
        try simp only [Act.put, List.setIfInBounds_toArray, List.set_cons_zero, List.set_cons_succ]
        refine wpAnyH_take (i := 7) (v := ?v7a) (by simp only [List.getElem?_toArray, List.getElem?_cons_succ, List.getElem?_cons_zero]; rfl) (by kernel_rfl) (by kernel_rfl) (by kernel_rfl) (by exact fun _ _ _ h => h) (Or.inl ⟨by rfl, ?h7a⟩) (by assumption) ?_
        case h7a => (intro W hSw; (try dsimp only at hSw); go_simp; try with_reducible rfl)
        try simp only [Act.put, List.setIfInBounds_toArray, List.set_cons_zero, List.set_cons_succ]
        refine wpAnyH_take (i := 8) (v := ?v8a) (by simp only [List.getElem?_toArray, List.getElem?_cons_succ, List.getElem?_cons_zero]; rfl) (by kernel_rfl) (by kernel_rfl) (by kernel_rfl) (by exact fun _ _ _ h => h) (Or.inl ⟨by rfl, ?h8a⟩) (by assumption) ?_
        case h8a => (intro W hSw; (try dsimp only at hSw); go_simp; try with_reducible rfl)
        try simp only [Act.put, List.setIfInBounds_toArray, List.set_cons_zero, List.set_cons_succ]
        refine wpAnyH_take (i := 9) (by simp only [List.getElem?_toArray, List.getElem?_cons_succ, List.getElem?_cons_zero]; rfl) (by kernel_rfl) (by kernel_rfl) (by kernel_rfl) (by exact fun _ _ _ h => h) (yieldsIf_loadG (by rfl) 26 (.tmp 19) rfl ⟨g, 0, none⟩ rfl _ (fun W hW => load_ptrn hW)) (by assumption) ?_
        try simp only [Act.put, List.setIfInBounds_toArray, List.set_cons_zero, List.set_cons_succ]
        refine wpAnyH_ready (rs := [4, 14]) (by kernel_rfl) (by simp) ?_
        refine AllReadyH.cons (by simp only [List.getElem?_toArray, List.getElem?_cons_succ, List.getElem?_cons_zero]; rfl) (fun K hK => ?_) (AllReadyH.cons (by simp only [List.getElem?_toArray, List.getElem?_cons_succ, List.getElem?_cons_zero]; rfl) (fun K hK => ?_) AllReadyH.nil)
        · go_simp
          refine (CR.out k _ _ hlt' R0.out.1 QE.out).mono ?_
          rintro en w8 ⟨rfl, n8, o8⟩
          have R1 := Lib.hid (R0.out.read n8 o8)
          clear n8 o8
          refine hK _ _ R1.out.1.c0 (fun hH4 => ?_)
          clear hK K
          try simp only [Act.put, List.setIfInBounds_toArray, List.set_cons_zero, List.set_cons_succ]
          refine wpAnyH_ready (rs := [10, 14]) (by kernel_rfl) (by simp) ?_
          refine AllReadyH.cons (by simp only [List.getElem?_toArray, List.getElem?_cons_succ, List.getElem?_cons_zero]; rfl) (fun K hK => ?_) (AllReadyH.cons (by simp only [List.getElem?_toArray, List.getElem?_cons_succ, List.getElem?_cons_zero]; rfl) (fun K hK => ?_) AllReadyH.nil)
          · go_simp
            refine (CM.out _).mono ?_
            rintro en w9 ⟨rfl, b9⟩
            have R2 := Lib.hid (R1.out.below b9)
            clear b9
            refine hK _ _ R2.out.1.c0 (fun hH10 => ?_)
            clear hK K
            try simp only [Act.put, List.setIfInBounds_toArray, List.set_cons_zero, List.set_cons_succ]
            refine wpAnyH_take (i := 11) (v := ?v11e1) (by simp only [List.getElem?_toArray, List.getElem?_cons_succ, List.getElem?_cons_zero]; rfl) (by kernel_rfl) (by kernel_rfl) (by kernel_rfl) (by exact fun _ _ _ h => h) (Or.inl ⟨by rfl, ?h11e1⟩) (by assumption) ?_
            case h11e1 => (intro W hSw; (try dsimp only at hSw); go_simp; try with_reducible rfl)
            try simp only [Act.put, List.setIfInBounds_toArray, List.set_cons_zero, List.set_cons_succ]
            refine wpAnyH_take (i := 12) (v := ?v12e1) (by simp only [List.getElem?_toArray, List.getElem?_cons_succ, List.getElem?_cons_zero]; rfl) (by kernel_rfl) (by kernel_rfl) (by kernel_rfl) (by exact fun _ _ _ h => h) (Or.inl ⟨by rfl, ?h12e1⟩) (by assumption) ?_
            case h12e1 => (intro W hSw; (try dsimp only at hSw); go_simp; try with_reducible rfl)
            try simp only [Act.put, List.setIfInBounds_toArray, List.set_cons_zero, List.set_cons_succ]
            refine wpAnyH_take (i := 13) (v := ?v13e1) (by simp only [List.getElem?_toArray, List.getElem?_cons_succ, List.getElem?_cons_zero]; rfl) (by kernel_rfl) (by kernel_rfl) (by kernel_rfl) (by exact fun _ _ _ h => h) (Or.inl ⟨by rfl, ?h13e1⟩) (by assumption) ?_
            case h13e1 => (intro W hSw; (try dsimp only at hSw); go_simp; try with_reducible rfl)
            try simp only [Act.put, List.setIfInBounds_toArray, List.set_cons_zero, List.set_cons_succ]
            refine wpAnyH_ready (rs := [14]) (by kernel_rfl) (by simp) ?_
            refine AllReadyH.cons (by simp only [List.getElem?_toArray, List.getElem?_cons_succ, List.getElem?_cons_zero]; rfl) (fun K hK => ?_) AllReadyH.nil
            go_simp
            have G3 := Lib.hid (heap_alloc_new w9 (.cells #[.int .u64 0, .int .u64 0, .int .u32 0, .int .u32 0] 62))
            have R3 := Lib.hid (R2.out.below ((Below.refl w9.heap.size w9).alloc (Nat.le_refl _) (.cells #[.int .u64 0, .int .u64 0, .int .u32 0, .int .u32 0] 62)))
            have GE : Hid (wr.heap.size ≤ w9.heap.size) := Lib.hid R2.out.2.size
            refine hK _ _ R3.out.1.c0 (fun hH14 => ?_)
            clear hK K
            try simp only [Act.put, List.setIfInBounds_toArray, List.set_cons_zero, List.set_cons_succ]
            refine wpAnyH_ready (rs := [15]) (by kernel_rfl) (by simp) ?_
            refine AllReadyH.cons (by simp only [List.getElem?_toArray, List.getElem?_cons_succ, List.getElem?_cons_zero]; rfl) (fun K hK => ?_) AllReadyH.nil
            refine step_storeM rfl (.tmp 5) (.tmp 22) rfl (w9.heap.size) ⟨0, 0, 0, 0⟩ rfl rfl _ G3.out rfl ?_
            have RZ := Lib.hid (R3.out.row GE.out hgw ((Only.refl _ _).setRow (S := fun q => q = w9.heap.size) rfl (mkC ⟨0, 0, 0, 0⟩)))
            refine hK _ _ RZ.out.1.c0 (fun hH15 => ?_)
            clear hK K
            try simp only [Act.put, List.setIfInBounds_toArray, List.set_cons_zero, List.set_cons_succ]
            refine wpAnyH_take (i := 16) (v := ?v16e1) (by simp only [List.getElem?_toArray, List.getElem?_cons_succ, List.getElem?_cons_zero]; rfl) (by kernel_rfl) (by kernel_rfl) (by kernel_rfl) (by exact fun _ _ _ h => h) (Or.inl ⟨by rfl, ?h16e1⟩) (by assumption) ?_
            case h16e1 => (intro W hSw; (try dsimp only at hSw); go_simp; try with_reducible rfl)
            try simp only [Act.put, List.setIfInBounds_toArray, List.set_cons_zero, List.set_cons_succ]
            refine wpAnyH_done (by kernel_rfl) ?_ _
            go_wp2_with fail
            go_meet
            exact ⟨_, rfl, rfl, RZ.out⟩
          · go_simp
            have G2 := Lib.hid (heap_alloc_new w8 (.cells #[.int .u64 0, .int .u64 0, .int .u32 0, .int .u32 0] 62))
            have R2 := Lib.hid (R1.out.below ((Below.refl w8.heap.size w8).alloc (Nat.le_refl _) (.cells #[.int .u64 0, .int .u64 0, .int .u32 0, .int .u32 0] 62)))
            have GE : Hid (wr.heap.size ≤ w8.heap.size) := Lib.hid R1.out.2.size
            refine hK _ _ R2.out.1.c0 (fun hH14 => ?_)
            clear hK K
            try simp only [Act.put, List.setIfInBounds_toArray, List.set_cons_zero, List.set_cons_succ]
            refine wpAnyH_ready (rs := [10]) (by kernel_rfl) (by simp) ?_
            refine AllReadyH.cons (by simp only [List.getElem?_toArray, List.getElem?_cons_succ, List.getElem?_cons_zero]; rfl) (fun K hK => ?_) AllReadyH.nil
            go_simp
            refine (CM.out _).mono ?_
            rintro en w9 ⟨rfl, b9⟩
            have R3 := Lib.hid (R2.out.below b9)
            have G3 := Lib.hid ((b9.block _ (Array.getElem?_eq_some_iff.1 G2.out).1).trans G2.out)
            clear b9
            refine hK _ _ R3.out.1.c0 (fun hH10 => ?_)
            clear hK K
            try simp only [Act.put, List.setIfInBounds_toArray, List.set_cons_zero, List.set_cons_succ]
            refine wpAnyH_take (i := 11) (v := ?v11e2) (by simp only [List.getElem?_toArray, List.getElem?_cons_succ, List.getElem?_cons_zero]; rfl) (by kernel_rfl) (by kernel_rfl) (by kernel_rfl) (by exact fun _ _ _ h => h) (Or.inl ⟨by rfl, ?h11e2⟩) (by assumption) ?_
            case h11e2 => (intro W hSw; (try dsimp only at hSw); go_simp; try with_reducible rfl)
            try simp only [Act.put, List.setIfInBounds_toArray, List.set_cons_zero, List.set_cons_succ]
            refine wpAnyH_take (i := 12) (v := ?v12e2) (by simp only [List.getElem?_toArray, List.getElem?_cons_succ, List.getElem?_cons_zero]; rfl) (by kernel_rfl) (by kernel_rfl) (by kernel_rfl) (by exact fun _ _ _ h => h) (Or.inl ⟨by rfl, ?h12e2⟩) (by assumption) ?_
            case h12e2 => (intro W hSw; (try dsimp only at hSw); go_simp; try with_reducible rfl)
            try simp only [Act.put, List.setIfInBounds_toArray, List.set_cons_zero, List.set_cons_succ]
            refine wpAnyH_take (i := 13) (v := ?v13e2) (by simp only [List.getElem?_toArray, List.getElem?_cons_succ, List.getElem?_cons_zero]; rfl) (by kernel_rfl) (by kernel_rfl) (by kernel_rfl) (by exact fun _ _ _ h => h) (Or.inl ⟨by rfl, ?h13e2⟩) (by assumption) ?_
            case h13e2 => (intro W hSw; (try dsimp only at hSw); go_simp; try with_reducible rfl)
            try simp only [Act.put, List.setIfInBounds_toArray, List.set_cons_zero, List.set_cons_succ]
            refine wpAnyH_ready (rs := [15]) (by kernel_rfl) (by simp) ?_
            refine AllReadyH.cons (by simp only [List.getElem?_toArray, List.getElem?_cons_succ, List.getElem?_cons_zero]; rfl) (fun K hK => ?_) AllReadyH.nil
            refine step_storeM rfl (.tmp 5) (.tmp 22) rfl (w8.heap.size) ⟨0, 0, 0, 0⟩ rfl rfl _ G3.out rfl ?_
            have RZ := Lib.hid (R3.out.row GE.out hgw ((Only.refl _ _).setRow (S := fun q => q = w8.heap.size) rfl (mkC ⟨0, 0, 0, 0⟩)))
            refine hK _ _ RZ.out.1.c0 (fun hH15 => ?_)
            clear hK K
            try simp only [Act.put, List.setIfInBounds_toArray, List.set_cons_zero, List.set_cons_succ]
            refine wpAnyH_take (i := 16) (v := ?v16e2) (by simp only [List.getElem?_toArray, List.getElem?_cons_succ, List.getElem?_cons_zero]; rfl) (by kernel_rfl) (by kernel_rfl) (by kernel_rfl) (by exact fun _ _ _ h => h) (Or.inl ⟨by rfl, ?h16e2⟩) (by assumption) ?_
            case h16e2 => (intro W hSw; (try dsimp only at hSw); go_simp; try with_reducible rfl)
            try simp only [Act.put, List.setIfInBounds_toArray, List.set_cons_zero, List.set_cons_succ]
            refine wpAnyH_done (by kernel_rfl) ?_ _
            go_wp2_with fail
            go_meet
            exact ⟨_, rfl, rfl, RZ.out⟩
        · go_simp
          have GA := Lib.hid (heap_alloc_new wr.drew (.cells #[.int .u64 0, .int .u64 0, .int .u32 0, .int .u32 0] 62))
          have RA := Lib.hid (R0.out.below ((Below.refl wr.drew.heap.size wr.drew).alloc (Nat.le_refl _) (.cells #[.int .u64 0, .int .u64 0, .int .u32 0, .int .u32 0] 62)))
          have GE : Hid (wr.heap.size ≤ wr.drew.heap.size) := Lib.hid R0.out.2.size
          refine hK _ _ RA.out.1.c0 (fun hH14 => ?_)
          clear hK K
          try simp only [Act.put, List.setIfInBounds_toArray, List.set_cons_zero, List.set_cons_succ]
          refine wpAnyH_ready (rs := [4]) (by kernel_rfl) (by simp) ?_
          refine AllReadyH.cons (by simp only [List.getElem?_toArray, List.getElem?_cons_succ, List.getElem?_cons_zero]; rfl) (fun K hK => ?_) AllReadyH.nil
          go_simp
          refine (CR.out k _ _ hlt' RA.out.1 QE.out).mono ?_
          rintro en w8 ⟨rfl, n8, o8⟩
          have R2 := Lib.hid (RA.out.read n8 o8)
          have G2 := Lib.hid ((o8.block _ (Array.getElem?_eq_some_iff.1 GA.out).1 (show ¬ _ = g by omega)).trans GA.out)
          clear n8 o8
          refine hK _ _ R2.out.1.c0 (fun hH4 => ?_)
          clear hK K
          try simp only [Act.put, List.setIfInBounds_toArray, List.set_cons_zero, List.set_cons_succ]
          refine wpAnyH_ready (rs := [10]) (by kernel_rfl) (by simp) ?_
          refine AllReadyH.cons (by simp only [List.getElem?_toArray, List.getElem?_cons_succ, List.getElem?_cons_zero]; rfl) (fun K hK => ?_) AllReadyH.nil
          go_simp
          refine (CM.out _).mono ?_
          rintro en w9 ⟨rfl, b9⟩
          have R3 := Lib.hid (R2.out.below b9)
          have G3 := Lib.hid ((b9.block _ (Array.getElem?_eq_some_iff.1 G2.out).1).trans G2.out)
          clear b9
          refine hK _ _ R3.out.1.c0 (fun hH10 => ?_)
          clear hK K
          try simp only [Act.put, List.setIfInBounds_toArray, List.set_cons_zero, List.set_cons_succ]
          refine wpAnyH_take (i := 11) (v := ?v11e3) (by simp only [List.getElem?_toArray, List.getElem?_cons_succ, List.getElem?_cons_zero]; rfl) (by kernel_rfl) (by kernel_rfl) (by kernel_rfl) (by exact fun _ _ _ h => h) (Or.inl ⟨by rfl, ?h11e3⟩) (by assumption) ?_
          case h11e3 => (intro W hSw; (try dsimp only at hSw); go_simp; try with_reducible rfl)
          try simp only [Act.put, List.setIfInBounds_toArray, List.set_cons_zero, List.set_cons_succ]
          refine wpAnyH_take (i := 12) (v := ?v12e3) (by simp only [List.getElem?_toArray, List.getElem?_cons_succ, List.getElem?_cons_zero]; rfl) (by kernel_rfl) (by kernel_rfl) (by kernel_rfl) (by exact fun _ _ _ h => h) (Or.inl ⟨by rfl, ?h12e3⟩) (by assumption) ?_
          case h12e3 => (intro W hSw; (try dsimp only at hSw); go_simp; try with_reducible rfl)
          try simp only [Act.put, List.setIfInBounds_toArray, List.set_cons_zero, List.set_cons_succ]
          refine wpAnyH_take (i := 13) (v := ?v13e3) (by simp only [List.getElem?_toArray, List.getElem?_cons_succ, List.getElem?_cons_zero]; rfl) (by kernel_rfl) (by kernel_rfl) (by kernel_rfl) (by exact fun _ _ _ h => h) (Or.inl ⟨by rfl, ?h13e3⟩) (by assumption) ?_
          case h13e3 => (intro W hSw; (try dsimp only at hSw); go_simp; try with_reducible rfl)
          try simp only [Act.put, List.setIfInBounds_toArray, List.set_cons_zero, List.set_cons_succ]
          refine wpAnyH_ready (rs := [15]) (by kernel_rfl) (by simp) ?_
          refine AllReadyH.cons (by simp only [List.getElem?_toArray, List.getElem?_cons_succ, List.getElem?_cons_zero]; rfl) (fun K hK => ?_) AllReadyH.nil
          refine step_storeM rfl (.tmp 5) (.tmp 22) rfl (wr.drew.heap.size) ⟨0, 0, 0, 0⟩ rfl rfl _ G3.out rfl ?_
          have RZ := Lib.hid (R3.out.row GE.out hgw ((Only.refl _ _).setRow (S := fun q => q = wr.drew.heap.size) rfl (mkC ⟨0, 0, 0, 0⟩)))
          refine hK _ _ RZ.out.1.c0 (fun hH15 => ?_)
          clear hK K
          try simp only [Act.put, List.setIfInBounds_toArray, List.set_cons_zero, List.set_cons_succ]
          refine wpAnyH_take (i := 16) (v := ?v16e3) (by simp only [List.getElem?_toArray, List.getElem?_cons_succ, List.getElem?_cons_zero]; rfl) (by kernel_rfl) (by kernel_rfl) (by kernel_rfl) (by exact fun _ _ _ h => h) (Or.inl ⟨by rfl, ?h16e3⟩) (by assumption) ?_
          case h16e3 => (intro W hSw; (try dsimp only at hSw); go_simp; try with_reducible rfl)
          try simp only [Act.put, List.setIfInBounds_toArray, List.set_cons_zero, List.set_cons_succ]
          refine wpAnyH_done (by kernel_rfl) ?_ _
          go_wp2_with fail
          go_meet
          exact ⟨_, rfl, rfl, RZ.out⟩
      case rest =>
        obtain ⟨gm, rfl, rfl, rz⟩ := hcut
        have RZ := Lib.hid rz
        clear rz
        go_wp2_with fail
        go_roundw
        case rel => exact ⟨k + 1, 1, by omega, by go_num, .inr rfl, fun _ => rfl, RZ.out.1, (RZ.out.2.block _ hvw (by omega)).trans QV.out, (RZ.out.2.block _ (by omega) (by omega)).trans QR.out, QO.out.trans' RZ.out.2 (fun q hq hh => by omega)⟩
        case measure => simp [Go.RowKit.intOf]; omega
    · obtain rfl : k = 2 := by omega
      have e1 := hke (by omega)
      subst e1
      clear qn qv qr qo he' hke
      go_wp2_with (first
        | (refine wpList_load_row rfl 62 (.tmp 3) rfl (w.heap.size + 1) rfl _ (mkC ⟨0, 0, 0, 0⟩) (0, 0) _ QV.out Try.underlying62 rfl infoMk ?_)
        | (refine wpList_store_row rfl 62 (.tmp 2) (.tmp 34) rfl w.heap.size (mkC ⟨0, 0, 0, 0⟩) rfl rfl _ _ QR.out infoMk (by simp [mkC]) (by simp [mkC, Value.oneCell']) ?_))
      have hrr : (wr.setRow w.heap.size (mkC ⟨0, 0, 0, 0⟩)).heap[w.heap.size]? = some (.cells (mkC ⟨0, 0, 0, 0⟩) 62 (0, 0)) := setRow_heap wr _ _ _ _ _ QR.out
      have orr : Only (fun q => q = w.heap.size) wr (wr.setRow w.heap.size (mkC ⟨0, 0, 0, 0⟩)) := (Only.refl _ wr).setRow (S := fun q => q = w.heap.size) rfl _
      refine bodyPost_ret (v := .agg (mkC ⟨0, 0, 0, 0⟩)) (res_mk (p := 2) rfl _ rfl hrr) (by rfl) ?_
      exact ⟨rfl, QN.out.only orr (show ¬ g = w.heap.size by omega), (QO.out.trans (orr.mono (fun q _ hq => .inr (by omega)))).mono (fun q hq hh => hh.elim id (fun h => by omega))⟩
end
set_option maxRecDepth 100000 in
set_option maxHeartbeats 2000000 in
theorem open_nil (w : World) : Calls Try.prog 18 #[.pointer none] w (fun en W => en = .returned (.tuple #[.pointer none, .int .i64 1]) ∧ Below w.heap.size w W) := by
  have CLv := Lib.hid (none_lives (w := w) (p := none) (.inl rfl))
  have hmm : ∀ W : World, (Instr.makeMap 63 none).run Try.prog W = .ok (.map (some W.heap.size)) (W.alloc (.map #[] 0)) := fun W => by simp [Instr.makeMap, go_sem, Result.andThen]
  obtain ⟨w2, hw2⟩ : ∃ w2, (w.alloc (.map #[] 0)).alloc (.cells #[.pointer none, .int .i64 0, .int .u64 0, .int .u64 0, .int .u32 0, .int .u32 0, .int .i64 0, .int .i64 0, .map (some w.heap.size)] 65) = w2 := ⟨_, rfl⟩
  have hb : Below w.heap.size w w2 := by rw [← hw2]; exact ((Below.refl _ _).alloc (Nat.le_refl _) _).alloc (by simp) _
  have h2 : w2.heap[w.heap.size + 1]? = some (.cells #[.pointer none, .int .i64 0, .int .u64 0, .int .u64 0, .int .u32 0, .int .u32 0, .int .i64 0, .int .i64 0, .map (some w.heap.size)] 65 (0, 0)) := by
    rw [← hw2]
    have := heap_alloc_new (w.alloc (.map #[] 0)) (.cells #[.pointer none, .int .i64 0, .int .u64 0, .int .u64 0, .int .u32 0, .int .u32 0, .int .i64 0, .int .i64 0, .map (some w.heap.size)] 65)
    simpa using this
  have CNw := Lib.hid (newest_nil (w := w2) (g := w.heap.size + 1) (cs := #[.pointer none, .int .i64 0, .int .u64 0, .int .u64 0, .int .u32 0, .int .u32 0, .int .i64 0, .int .i64 0, .map (some w.heap.size)]) (e := 0) ⟨h2, rfl, by show 2 ≤ 9; omega⟩ (.inl rfl))
  rw [show mkC ⟨0, 0, 0, 0⟩ = #[.int .u64 0, .int .u64 0, .int .u32 0, .int .u32 0] from rfl] at CNw
  have B2 := Lib.hid hb
  have W2 := Lib.hid hw2
  clear hb h2 hw2
  go_enter Try.func18, Try.ntmps18
  go_upto_region 2 with (first
    | (go_at_call 51; refine CLv.out.mono ?_; rintro en w1 ⟨rfl, rfl⟩))
  rw [W2.out]
  clear W2
  go_upto_region 3 with (first
    | (go_at_call 52; refine CNw.out.mono ?_; rintro en w3 ⟨rfl, nb, ob⟩
       have NB := Lib.hid nb
       have OB := Lib.hid ob
       have f2 := frozen_of_row w3 _ 2 _ _ nb.1
       have f3 := frozen_of_row w3 _ 3 _ _ nb.1
       have f4 := frozen_of_row w3 _ 4 _ _ nb.1
       have f5 := frozen_of_row w3 _ 5 _ _ nb.1
       have c2 := cell_of_row w3 _ 2 _ _ (0, 0) nb.1
       have c3 := cell_of_row w3 _ 3 _ _ (0, 0) nb.1
       have c4 := cell_of_row w3 _ 4 _ _ (0, 0) nb.1
       have c5 := cell_of_row w3 _ 5 _ _ (0, 0) nb.1
       have c1 := nb.c1
       clear nb ob))
  clear f2 f3 f4 f5 c2 c3 c4 c5
  generalize hw4 : World.setCell _ _ _ = w4
  have ow : Only (fun k => k = w.heap.size + 1) w3 w4 := by rw [← hw4]; exact ((((Only.refl _ w3).cell1 2 _).cell1 3 _).cell1 4 _).cell1 5 _
  have c41 : w4.cell? ⟨w.heap.size + 1, 1, none⟩ = some (.int .i64 1) := by
    have r1' := heap_setCell_same w3 (w.heap.size + 1) 2 _ 65 (.int .u64 0) NB.out.1
    have r2' := heap_setCell_same _ (w.heap.size + 1) 3 _ 65 (.int .u64 0) r1'
    have r3' := heap_setCell_same _ (w.heap.size + 1) 4 _ 65 (.int .u32 0) r2'
    have r4' := heap_setCell_same _ (w.heap.size + 1) 5 _ 65 (.int .u32 0) r3'
    rw [hw4] at r4'
    exact cell_of_row w4 _ 1 _ _ (0, 0) r4'
  have BF : Hid (Below w.heap.size w w4) := Lib.hid ((B2.out.trans (OB.out.to_below (fun k hk => by (try dsimp only at hk); omega) B2.out.size)).trans (ow.to_below (fun k hk => by (try dsimp only at hk); omega) (Nat.le_trans B2.out.size OB.out.size)))
  clear hw4 ow c1
  go_wp2_with fail
  go_quiet (fail)
  go_wp2_with fail
  go_ret2
  exact ⟨rfl, BF.out.trans ⟨rfl, rfl, rfl, Nat.le_refl _, fun _ _ => rfl⟩⟩
end Go.Proofs.Ytkbbpkbchniddaa
