/-
  Own work. The journal's marks: positions, anchors, which disks fit.
-/
import Derived.Test.YtkbbpkbchniddaaJq
namespace Go.Proofs.Ytkbbpkbchniddaa
open Go.RowKit
set_option linter.unusedVariables false
set_option linter.unusedSimpArgs false

def mkC (k : Mk) : Array Value := #[.int .u64 (k.num : Int), .int .u64 (k.turn : Int), .int .u32 (k.pos : Int), .int .u32 (k.ring : Int)]
structure Mk.Fit (k : Mk) : Prop where
  n : k.num < 18446744073709551616
  t : k.turn < 18446744073709551616
  p : k.pos < 4294967296
  r : k.ring < 4294967296
def RetV2 (w : World) (v : Value) (e : Ending) (w' : World) : Prop := e = .returned v ∧ Below w.heap.size w w'
set_option maxRecDepth 100000 in
theorem ahead_any (k : Mk) (i : Nat) (w : World) (h : k.Fit) (hr : 0 < k.ring) (hi : i ≤ 4294967296) : Calls Try.prog 81 #[.agg (mkC k), .int .i64 (i : Int)] w (RetV2 w (.int .u32 (k.ahead i : Nat))) := by
  obtain ⟨s, t, p, r⟩ := k
  have hp : p < 4294967296 := h.p
  have hr2 : r < 4294967296 := h.r
  have hr' : 0 < r := hr
  obtain ⟨z, hz⟩ : ∃ z, (p + i) % r = z := ⟨_, rfl⟩
  have hz1 : z < r := by rw [← hz]; exact Nat.mod_lt _ hr'
  have hz2 : ((p : Int) + (i : Int)) % (r : Int) = (z : Int) := by rw [← hz]; simp
  unfold Mk.ahead mkC
  show Calls _ _ _ _ (RetV2 w (.int .u32 (((p + i) % r : Nat) : Int)))
  rw [hz]
  clear h hr hz
  go_enter Try.func81, Try.ntmps81
  go_wp2_with fail
  go_ret
  exact ⟨rfl, (Below.refl _ _).alloc (Nat.le_refl _) _⟩
theorem load_mk {w : World} {g : Nat} {k : Mk} (hB : w.heap[g]? = some (.cells (mkC k) 62 (0, 0))) : (loadVar 62 ⟨g, 0, none⟩).run Try.prog w = .ok (.agg (mkC k)) w :=
  run_loadVar_row w g _ _ _ (0, 0) _ hB Try.underlying62 rfl (by kernel_rfl)
theorem infoMk : (Try.prog.info? 62).map (·.size) = some 4 := by kernel_rfl
set_option maxRecDepth 100000 in
theorem inRing_any (k : Mk) (i : Nat) (w : World) (h : k.Fit) (hr : 0 < k.ring) (hi : i ≤ 4294967296) : Calls Try.prog 75 #[.agg (mkC k), .int .i64 (i : Int)] w (RetV2 w (.int .i64 (k.inRing i : Nat))) := by
  obtain ⟨w0, hw0⟩ : ∃ w0, w.alloc (.cells (mkC k) 62) = w0 := ⟨_, rfl⟩
  have hb : Below w.heap.size w w0 := by rw [← hw0]; exact (Below.refl _ _).alloc (Nat.le_refl _) _
  have hB : w0.heap[w.heap.size]? = some (.cells (mkC k) 62 (0, 0)) := by rw [← hw0]; exact heap_alloc_new w _
  have C := Lib.hid (ahead_any k i w0 h hr hi)
  have hl : k.ahead i < 4294967296 := Nat.lt_trans (Nat.mod_lt _ hr) h.r
  unfold Mk.inRing
  obtain ⟨z, hz⟩ : ∃ z, k.ahead i = z := ⟨_, rfl⟩
  rw [hz] at C hl ⊢
  have HB := Lib.hid hB
  have B0 := Lib.hid hb
  have W0 := Lib.hid hw0
  clear hB hb hw0 hz h hr
  go_enter Try.func75, Try.ntmps75
  go_upto_region 1 with fail
  rw [W0.out]
  go_wp2_with (first
    | (refine wpList_load_row rfl 62 (.tmp 2) rfl w.heap.size rfl _ (mkC k) (0, 0) _ HB.out Try.underlying62 rfl infoMk ?_)
    | (go_at_call 81; refine C.out.mono ?_; rintro e w1 ⟨rfl, b1⟩))
  go_ret
  exact ⟨rfl, B0.out.trans (b1.mono B0.out.size)⟩
set_option maxRecDepth 100000 in
theorem atHome_any (k : Mk) (i : Nat) (w : World) (h : k.Fit) (hi : i ≤ 4294967296) : Calls Try.prog 64 #[.agg (mkC k), .int .i64 (i : Int)] w (RetV2 w (.int .i64 (k.atHome i : Nat))) := by
  obtain ⟨s, t, p, r⟩ := k
  have hr2 : r < 4294967296 := h.r
  unfold Mk.atHome mkC
  show Calls _ _ _ _ (RetV2 w (.int .i64 ((2 + r + i : Nat) : Int)))
  clear h
  go_enter Try.func64, Try.ntmps64
  go_wp2_with fail
  go_ret
  refine ⟨?_, (Below.refl _ _).alloc (Nat.le_refl _) _⟩
  simp
section
variable {Z : DK} {w w' : World} {gd n : Nat} {S : Nat → Prop} {m : RM}
set_option maxRecDepth 100000 in
theorem fits_any (ring : Int) (d : Z.D w gd S n m) (ok : m.Ok n) (hr : -9223372036854775808 ≤ ring ∧ ring ≤ 9223372036854775807) : Calls Try.prog 46 #[.pointer (some ⟨gd, 0, none⟩), .int .i64 ring] w (RetW w (.bool (fitsB n ring))) := by
  have C := Lib.hid (Z.len_q d ok)
  have n1 := ok.n1
  have n2 := ok.n2
  obtain ⟨r1, r2⟩ := hr
  have N := Lib.hid d
  unfold fitsB
  clear d ok
  by_cases h1 : 8 ≤ ring
  · by_cases h2 : ring ≤ 1024
    · obtain ⟨b, hb⟩ : ∃ b, decide (8 ≤ ring ∧ ring ≤ 1024 ∧ (n : Int) - 2 - ring ≥ 8) = b := ⟨_, rfl⟩
      have hb' : decide (8 ≤ (n : Int) - 2 - ring) = b := by rw [← hb, Bool.eq_iff_iff, decide_eq_true_iff, decide_eq_true_iff]; omega
      rw [hb]
      clear hb
      have HB := Lib.hid hb'
      clear hb'
      go_enter Try.func46, Try.ntmps46
      go_wp2_with (go_at_call 47; refine C.out.mono ?_; rintro e w1 ⟨rfl, rfl⟩)
      go_ret
      refine ⟨?_, rfl⟩
      rw [← HB.out]
      simp
    · rw [decide_eq_false (by omega)]
      have h2' : decide (ring ≤ 1024) = false := decide_eq_false h2
      go_enter Try.func46, Try.ntmps46
      go_wp2_with fail
      go_ret
      exact ⟨rfl, rfl⟩
  · rw [decide_eq_false (by omega)]
    have h1' : decide (8 ≤ ring) = false := decide_eq_false h1
    go_enter Try.func46, Try.ntmps46
    go_wp2_with fail
    go_ret
    exact ⟨rfl, rfl⟩
end
/-- A call that hands a sector back. -/
def RetSec (w : World) (s : List UInt8) (e : Ending) (w' : World) : Prop := e = .returned (.agg (cellsB s).toArray) ∧ Below w.heap.size w w'
set_option maxRecDepth 100000 in
theorem tagged_any (s : List UInt8) (t : Nat) (w : World) (hs : s.length = 512) (ht : t < 9223372036854775808) : Calls Try.prog 82 #[.agg (cellsB s).toArray, .int .u64 (t : Int)] w (RetSec w (tagged s t)) := by
  obtain ⟨w0, hw0⟩ : ∃ w0, (w.alloc (.cells (cellsB s).toArray 97)).alloc (.cells (cellsB zsec).toArray 97) = w0 := ⟨_, rfl⟩
  have hb : Below w.heap.size w w0 := by rw [← hw0]; exact ((Below.refl _ _).alloc (Nat.le_refl _) _).alloc (by simp) _
  have h1 : Bw w0 w.heap.size 97 s := by rw [← hw0]; exact (Bw.new w s _).alloc _
  have h2 : Bw w0 (w.heap.size + 1) 97 zsec := by rw [← hw0]; exact bw_second w s zsec _ _
  have C1 := Lib.hid (ringTag_any t w0 ht)
  have C2 := Lib.hid (sput_any 0 (2 * t) 8 h1 hs (by omega) (by omega) (by omega) (by omega) (by omega))
  have HT : Hid (over s 0 (be 8 (2 * t)) = tagged s t) := Lib.hid rfl
  have HL := Lib.hid (tagged_len hs t)
  rw [HT.out] at C2
  obtain ⟨y, hy⟩ : ∃ y, tagged s t = y := ⟨_, rfl⟩
  obtain ⟨t2, ht2⟩ : ∃ t2, 2 * t = t2 := ⟨_, rfl⟩
  rw [hy] at C2 HL ⊢
  rw [ht2] at C2 C1
  have H2 := Lib.hid h2
  have B0 := Lib.hid hb
  have W0 := Lib.hid hw0
  clear h1 h2 hb hw0 hy ht2 HT
  go_enter Try.func82, Try.ntmps82
  go_upto_region 1 with fail
  rw [zc97, W0.out]
  go_wp2_with (first
    | (go_at_call 80; refine C1.out.mono ?_; rintro e w1 ⟨rfl, rfl⟩)
    | (go_at_call 96; refine C2.out.mono ?_; rintro e w2 ⟨rfl, q1, o1⟩
       have Q1 := Lib.hid q1
       have Q2 := Lib.hid (H2.out.keepO o1 (by omega))
       have B2 := Lib.hid (B0.out.trans (o1.to_below (fun k hk => by omega) B0.out.size))
       clear q1 o1)
    | (refine wp_load_sec rfl (.tmp 2) rfl w.heap.size rfl _ y Q1.out HL.out ?_)
    | (refine wp_store_sec rfl (.tmp 4) (.tmp 8) rfl (w.heap.size + 1) y rfl rfl _ zsec Q2.out zsec_len HL.out ?_; intro w3 h3 o3))
  refine bodyPost_ret (v := .agg (cellsB y).toArray) (res_sec (p := 4) rfl _ rfl h3 HL.out) (by rfl) ?_
  exact ⟨rfl, B2.out.trans (o3.to_below (fun k hk => by omega) B2.out.size)⟩
end Go.Proofs.Ytkbbpkbchniddaa
