/-
  Own work. The contracts of mac's Derive and of the document's answer to it.
-/
import Derived.Test.YtkpmfpbeidhcbaaRf
import Derived.Laws.IdiomStrings
namespace Go.Proofs.Ytkpmfpbeidhcbaa
open Go.RowKit
set_option linter.unusedVariables false
set_option linter.unusedSimpArgs false

theorem bytes_of_string (s : ByteArray) (w : World) : ∃ c W, (convert 9 22 (.string s)).run Try.prog w = .ok (.slice (some ⟨w.heap.size, 0, none⟩) s.size c) W ∧ s.size ≤ c ∧ HasB W W.heap.size (some ⟨w.heap.size, 0, none⟩) s.size s.data.toList ∧ Below w.heap.size w W := by
  have hrun := run_bytes_of_string (P := Try.prog) w 9 22 5 s Try.underlying9 Try.underlying22 Try.underlying5
  refine ⟨_, _, hrun, grownCap_ge _ _ _ _, ⟨rfl, fun _ => ⟨w.heap.size, 0, rfl, by simp, fun i b hb => ?_⟩⟩, (Below.refl _ _).drew.alloc (Nat.le_refl _) _⟩
  have hlt : i < s.data.toList.length := (List.getElem?_eq_some_iff.1 hb).1
  rw [show ((⟨w.heap.size, 0 + i, none⟩ : Addr)) = ⟨w.drew.heap.size, i, none⟩ by rw [Nat.zero_add]; rfl, cell_of_row _ _ _ _ _ _ (heap_alloc_new w.drew _)]
  unfold bytesRow
  simp at hlt
  rw [Array.getElem?_append_left (by simpa using hlt)]
  simp
  exact ⟨b, by simpa using hb, rfl⟩
section
variable {ops : Array Oper} {o : Oper} {a : Act} {w : World} {K : Act → World → Prop} {Q : Exit → Act → World → Prop} {E : Prop}
/-- []byte(s), as one step of a region. -/
theorem step_conv (hw : Region.wanted o (yielded ops a.tmps) = true) (x : Operand) (ho : o.op = .convert 9 22 x) (s : ByteArray) (hx : a.eval x = .string s)
    (h : ∀ bl n c W, w.heap.size = bl → s.size = n → n ≤ c → HasB W W.heap.size (some ⟨bl, 0, none⟩) n s.data.toList → Below w.heap.size w W → K (a.put o.dst (.slice (some ⟨bl, 0, none⟩) n c)) W) :
    if Region.wanted o (yielded ops a.tmps) = true then Oper.wp Try.prog o a w K Q else E := by
  rw [if_pos hw]
  obtain ⟨c, W, hrun, hc, hh, hb⟩ := bytes_of_string s w
  unfold Oper.wp execOp
  simp only [ho, hx, Sem.run_bind, Sem.run_pure, Result.andThen_ok, hrun]
  exact h _ _ c W rfl rfl hc hh hb
/-- The store of a whole array, as one step of a region. -/
theorem step_store (hw : Region.wanted o (yielded ops a.tmps) = true) (ty : TypeId) (x y : Operand) (ho : o.op = .store ty x y) (g : Nat) (cells : Array Value) (hx : a.eval x = .pointer (some ⟨g, 0, none⟩)) (hy : a.eval y = .agg cells)
    (t : TypeId) (cur : Array Value) (hg : w.heap[g]? = some (.cells cur t (0, 0))) (hi : (Try.prog.info? ty).map (·.size) = some cells.size) (hsz : cur.size = cells.size) (h1 : cells.all (·.oneCell') = true)
    (h : K (a.put o.dst undef) (w.setRow g cells)) : if Region.wanted o (yielded ops a.tmps) = true then Oper.wp Try.prog o a w K Q else E := by
  rw [if_pos hw]
  refine wp_store_part ty x y ho g 0 cells hx hy t cur hg hi (by omega) ?_ ?_
  · intro v hv
    rw [Array.all_eq_true] at h1
    obtain ⟨i, hi2, rfl⟩ := List.getElem_of_mem hv
    simpa using h1 i (by simpa using hi2)
  · have e : (cur.toList.take 0 ++ cells.toList ++ cur.toList.drop (0 + cells.size)).toArray = cells := by
      rw [List.drop_of_length_le (by simp; omega)]
      simp
    rw [e]
    exact h
end

set_option maxRecDepth 100000 in
set_option maxHeartbeats 2000000 in
theorem derive_any (q : List UInt8) (s : ByteArray) (v : Nat) (w : World) (hq : q.length = 32) (hs : s.size ≤ 4096) (hv : v < 18446744073709551616) :
    Calls Try.prog 22 #[.agg (cellsB q).toArray, .string s, .int .u64 (v : Int)] w (RetID w (macS q (lens [s.data.toList, be 8 v]).flatten)) := by
  obtain ⟨l, hl⟩ : ∃ l, s.data.toList = l := ⟨_, rfl⟩
  have hsl : s.size = l.length := by rw [← hl]; rfl
  obtain ⟨X, hX⟩ : ∃ X, macS q (lens [l, be 8 v]).flatten = X := ⟨_, rfl⟩
  have hxl : X.length = 32 := by rw [← hX]; exact macS_len _ _
  have hfl : ([l, be 8 v] : List (List UInt8)).flatten.length ≤ 8192 := by
    have := be_length 8 v
    simp
    omega
  rw [hl, hX]
  have HQ := Lib.hid hq
  have HV := Lib.hid hv
  have HX := Lib.hid hX
  have HF := Lib.hid hfl
  have HLL := Lib.hid hl
  have IX := Lib.hid (id_iv X hxl)
  have XZ := Lib.hid (id_hz X hxl)
  clear hX hxl hq hfl hl hsl
  go_enter Try.func22, Try.ntmps22
  go_upto_region 1 with fail
  generalize hw2 : World.alloc (World.alloc _ _) _ = w2
  have B2 : Hid (Below w.heap.size w w2) := Lib.hid (by rw [← hw2]; exact ((Below.refl _ _).alloc (Nat.le_refl _) _).alloc (by simp) _)
  have HK : Hid (Bw w2 w.heap.size 30 q) := Lib.hid (by rw [← hw2]; exact (Bw.new w q _).alloc _)
  have HZ : Hid (Bw w2 (w.heap.size + 1) 30 (zer 32)) := Lib.hid (by rw [← hw2]; exact bw_second w q (zer 32) _ _)
  clear hw2
  refine wp_region_held_drew (S := fun W => Below w.heap.size w W) (by kernel_rfl) B2.out.drew (fun hHeld => ?_)
  refine wpAnyH_take (i := 0) (v := ?v0) (by simp only [List.getElem?_toArray, List.getElem?_cons_succ, List.getElem?_cons_zero]; rfl) (by kernel_rfl) (by kernel_rfl) (by kernel_rfl) (by exact fun _ _ _ h => h) (Or.inl ⟨by rfl, ?h0⟩) (by assumption) ?_
  case h0 => (intro W hSw; (try dsimp only at hSw); go_simp; try with_reducible rfl)
  try simp only [Act.put, List.setIfInBounds_toArray, List.set_cons_zero, List.set_cons_succ]
  refine wpAnyH_take (i := 1) (v := ?v1) (by simp only [List.getElem?_toArray, List.getElem?_cons_succ, List.getElem?_cons_zero]; rfl) (by kernel_rfl) (by kernel_rfl) (by kernel_rfl) (by exact fun _ _ _ h => h) (Or.inl ⟨by rfl, ?h1⟩) (by assumption) ?_
  case h1 => (intro W hSw; (try dsimp only at hSw); go_simp; try with_reducible rfl)
  try simp only [Act.put, List.setIfInBounds_toArray, List.set_cons_zero, List.set_cons_succ]
  refine wpAnyH_take (i := 3) (v := ?v3) (by simp only [List.getElem?_toArray, List.getElem?_cons_succ, List.getElem?_cons_zero]; rfl) (by kernel_rfl) (by kernel_rfl) (by kernel_rfl) (by exact fun _ _ _ h => h) (Or.inl ⟨by rfl, ?h3⟩) (by assumption) ?_
  case h3 => (intro W hSw; (try dsimp only at hSw); go_simp; try with_reducible rfl)
  try simp only [Act.put, List.setIfInBounds_toArray, List.set_cons_zero, List.set_cons_succ]
  refine wpAnyH_ready (rs := [2, 4]) (by kernel_rfl) (by simp) ?_
  refine AllReadyH.cons (by simp only [List.getElem?_toArray, List.getElem?_cons_succ, List.getElem?_cons_zero]; rfl) (fun K hK => ?_) (AllReadyH.cons (by simp only [List.getElem?_toArray, List.getElem?_cons_succ, List.getElem?_cons_zero]; rfl) (fun K hK => ?_) AllReadyH.nil)
  · refine step_conv (by rfl) (.tmp 8) rfl s rfl ?_
    intro bl nl cl w3 hbl hnl hcl hhl hb3
    rw [HLL.out] at hhl
    have HC := Lib.hid hcl
    have hS2 : Below w.heap.size w w3 := hHeld.trans (hb3.mono hHeld.size)
    refine hK _ _ hS2 (fun hH2 => ?_)
    clear hK K
    try simp only [Act.put, List.setIfInBounds_toArray, List.set_cons_zero, List.set_cons_succ]
    refine wpAnyH_ready (rs := [4]) (by kernel_rfl) (by simp) ?_
    refine AllReadyH.cons (by simp only [List.getElem?_toArray, List.getElem?_cons_succ, List.getElem?_cons_zero]; rfl) (fun K hK => ?_) AllReadyH.nil
    go_simp
    refine (num8_any v _ HV.out).mono ?_
    rintro e w4 ⟨A8, n8, c8, rfl, hown8, hb4⟩
    have hS4 : Below w.heap.size w w4 := hS2.trans (hb4.mono hS2.size)
    have hSa := hS4
    have HL := Lib.hid (hhl.on hb4)
    have HN := Lib.hid hown8.has
    have HC8 := Lib.hid hown8.caps.1
    have RW := Lib.hid (((Below.refl w2.heap.size w2).drew.trans (hb3.mono (Nat.le_refl _))).trans (hb4.mono hb3.size))
    refine hK _ _ hS4 (fun hH4 => ?_)
    clear hK K
    try simp only [Act.put, List.setIfInBounds_toArray, List.set_cons_zero, List.set_cons_succ]
    refine wpAnyH_ready (rs := [5]) (by kernel_rfl) (by simp) ?_
    refine AllReadyH.cons (by simp only [List.getElem?_toArray, List.getElem?_cons_succ, List.getElem?_cons_zero]; rfl) (fun K hK => ?_) AllReadyH.nil
    go_simp
    have hS5 : Below w.heap.size w (w4.alloc (.cells #[.slice (some ⟨bl, 0, none⟩) nl cl, .slice A8 n8 c8] 22)) := hSa.alloc hSa.size _
    refine hK _ _ hS5 (fun hH5 => ?_)
    clear hK K
    try simp only [Act.put, List.setIfInBounds_toArray, List.set_cons_zero, List.set_cons_succ]
    refine wpAnyH_ready (rs := [6]) (by kernel_rfl) (by simp) ?_
    refine AllReadyH.cons (by simp only [List.getElem?_toArray, List.getElem?_cons_succ, List.getElem?_cons_zero]; rfl) (fun K hK => ?_) AllReadyH.nil
    go_simp
    have hof := mof_any (some ⟨w.heap.size, 0, none⟩) (some ⟨w4.heap.size, 0, none⟩) 32 32 2 2 q [l, be 8 v] _ (((HK.out.below RW.out HK.out.lt).has HQ.out.symm).alloc (Nat.le_refl _) _ |>.more (by simp)) (has_two (HL.out) (HN.out) HC.out HC8.out) (Nat.le_refl _) (by omega) (by omega) (by have := HF.out; omega)
    rw [HX.out] at hof
    refine hof.mono ?_
    rintro e w7 ⟨rfl, hb7⟩
    have hS6 : Below w.heap.size w w7 := hS5.trans (hb7.mono hS5.size)
    have R7 := Lib.hid (RW.out.trans ((((Below.refl w4.heap.size w4).alloc (Nat.le_refl _) _).trans (hb7.mono (by simp))).mono RW.out.size))
    refine hK _ _ hS6 (fun hH6 => ?_)
    clear hK K
    try simp only [Act.put, List.setIfInBounds_toArray, List.set_cons_zero, List.set_cons_succ]
    refine wpAnyH_ready (rs := [7]) (by kernel_rfl) (by simp) ?_
    refine AllReadyH.cons (by simp only [List.getElem?_toArray, List.getElem?_cons_succ, List.getElem?_cons_zero]; rfl) (fun K hK => ?_) AllReadyH.nil
    refine step_store (by rfl) 30 (.tmp 6) (.tmp 13) rfl (w.heap.size + 1) (cellsB X).toArray rfl rfl 30 _ (HZ.out.below R7.out HZ.out.lt) IX.out XZ.out (cellsB_ones _) ?_
    have hS7 : Below w.heap.size w (w7.setRow (w.heap.size + 1) (cellsB X).toArray) := below_setRow hS6 (by omega) _
    refine hK _ _ hS7 (fun hH7 => ?_)
    clear hK K
    try simp only [Act.put, List.setIfInBounds_toArray, List.set_cons_zero, List.set_cons_succ]
    refine wpAnyH_done (by kernel_rfl) ?_ _
    go_wp2_with fail
    refine bodyPost_ret (v := .agg (cellsB X).toArray) ?_ (by rfl) ?_
    · exact results_cell_row (p := 6) (ty := 30) rfl _ _ (w.heap.size + 1) 30 (cellsB X).toArray _ _ rfl (setRow_heap _ _ _ _ 30 _ (HZ.out.below R7.out HZ.out.lt)) Try.underlying30 rfl IX.out
    · exact ⟨rfl, hS7⟩
  · go_simp
    refine (num8_any v _ HV.out).mono ?_
    rintro e w3 ⟨A8, n8, c8, rfl, hown8, hb3⟩
    have HC8 := Lib.hid hown8.caps.1
    have hS4 : Below w.heap.size w w3 := hHeld.trans (hb3.mono hHeld.size)
    refine hK _ _ hS4 (fun hH4 => ?_)
    clear hK K
    try simp only [Act.put, List.setIfInBounds_toArray, List.set_cons_zero, List.set_cons_succ]
    refine wpAnyH_ready (rs := [2]) (by kernel_rfl) (by simp) ?_
    refine AllReadyH.cons (by simp only [List.getElem?_toArray, List.getElem?_cons_succ, List.getElem?_cons_zero]; rfl) (fun K hK => ?_) AllReadyH.nil
    refine step_conv (by rfl) (.tmp 8) rfl s rfl ?_
    intro bl nl cl w4 hbl hnl hcl hhl hb4
    rw [HLL.out] at hhl
    have HC := Lib.hid hcl
    have hS2 : Below w.heap.size w w4 := hS4.trans (hb4.mono hS4.size)
    refine hK _ _ hS2 (fun hH2 => ?_)
    clear hK K
    try simp only [Act.put, List.setIfInBounds_toArray, List.set_cons_zero, List.set_cons_succ]
    have hSa := hS2
    have HL := Lib.hid hhl
    have HN := Lib.hid (hown8.has.on hb4)
    have RW := Lib.hid (((Below.refl w2.heap.size w2).drew.trans (hb3.mono (Nat.le_refl _))).trans (hb4.mono hb3.size))
    refine wpAnyH_ready (rs := [5]) (by kernel_rfl) (by simp) ?_
    refine AllReadyH.cons (by simp only [List.getElem?_toArray, List.getElem?_cons_succ, List.getElem?_cons_zero]; rfl) (fun K hK => ?_) AllReadyH.nil
    go_simp
    have hS5 : Below w.heap.size w (w4.alloc (.cells #[.slice (some ⟨bl, 0, none⟩) nl cl, .slice A8 n8 c8] 22)) := hSa.alloc hSa.size _
    refine hK _ _ hS5 (fun hH5 => ?_)
    clear hK K
    try simp only [Act.put, List.setIfInBounds_toArray, List.set_cons_zero, List.set_cons_succ]
    refine wpAnyH_ready (rs := [6]) (by kernel_rfl) (by simp) ?_
    refine AllReadyH.cons (by simp only [List.getElem?_toArray, List.getElem?_cons_succ, List.getElem?_cons_zero]; rfl) (fun K hK => ?_) AllReadyH.nil
    go_simp
    have hof := mof_any (some ⟨w.heap.size, 0, none⟩) (some ⟨w4.heap.size, 0, none⟩) 32 32 2 2 q [l, be 8 v] _ (((HK.out.below RW.out HK.out.lt).has HQ.out.symm).alloc (Nat.le_refl _) _ |>.more (by simp)) (has_two (HL.out) (HN.out) HC.out HC8.out) (Nat.le_refl _) (by omega) (by omega) (by have := HF.out; omega)
    rw [HX.out] at hof
    refine hof.mono ?_
    rintro e w7 ⟨rfl, hb7⟩
    have hS6 : Below w.heap.size w w7 := hS5.trans (hb7.mono hS5.size)
    have R7 := Lib.hid (RW.out.trans ((((Below.refl w4.heap.size w4).alloc (Nat.le_refl _) _).trans (hb7.mono (by simp))).mono RW.out.size))
    refine hK _ _ hS6 (fun hH6 => ?_)
    clear hK K
    try simp only [Act.put, List.setIfInBounds_toArray, List.set_cons_zero, List.set_cons_succ]
    refine wpAnyH_ready (rs := [7]) (by kernel_rfl) (by simp) ?_
    refine AllReadyH.cons (by simp only [List.getElem?_toArray, List.getElem?_cons_succ, List.getElem?_cons_zero]; rfl) (fun K hK => ?_) AllReadyH.nil
    refine step_store (by rfl) 30 (.tmp 6) (.tmp 13) rfl (w.heap.size + 1) (cellsB X).toArray rfl rfl 30 _ (HZ.out.below R7.out HZ.out.lt) IX.out XZ.out (cellsB_ones _) ?_
    have hS7 : Below w.heap.size w (w7.setRow (w.heap.size + 1) (cellsB X).toArray) := below_setRow hS6 (by omega) _
    refine hK _ _ hS7 (fun hH7 => ?_)
    clear hK K
    try simp only [Act.put, List.setIfInBounds_toArray, List.set_cons_zero, List.set_cons_succ]
    refine wpAnyH_done (by kernel_rfl) ?_ _
    go_wp2_with fail
    refine bodyPost_ret (v := .agg (cellsB X).toArray) ?_ (by rfl) ?_
    · exact results_cell_row (p := 6) (ty := 30) rfl _ _ (w.heap.size + 1) 30 (cellsB X).toArray _ _ rfl (setRow_heap _ _ _ _ 30 _ (HZ.out.below R7.out HZ.out.lt)) Try.underlying30 rfl IX.out
    · exact ⟨rfl, hS7⟩

set_option maxRecDepth 100000 in
set_option maxHeartbeats 2000000 in
theorem rderive_any (q : List UInt8) (s : ByteArray) (v : Nat) (w : World) (hq : q.length = 32) (hs : s.size ≤ 4096) (hv : v < 18446744073709551616) :
    Calls Try.prog 23 #[.agg (cellsB q).toArray, .string s, .int .u64 (v : Int)] w (RetID w (macS q (lens [s.data.toList, be 8 v]).flatten)) := by
  obtain ⟨l, hl⟩ : ∃ l, s.data.toList = l := ⟨_, rfl⟩
  have hsl : s.size = l.length := by rw [← hl]; rfl
  obtain ⟨X, hX⟩ : ∃ X, macS q (lens [l, be 8 v]).flatten = X := ⟨_, rfl⟩
  have hxl : X.length = 32 := by rw [← hX]; exact macS_len _ _
  have hfl : ([l, be 8 v] : List (List UInt8)).flatten.length ≤ 8192 := by
    have := be_length 8 v
    simp
    omega
  rw [hl, hX]
  have HQ := Lib.hid hq
  have HV := Lib.hid hv
  have HX := Lib.hid hX
  have HF := Lib.hid hfl
  have HLL := Lib.hid hl
  have IX := Lib.hid (id_iv X hxl)
  have XZ := Lib.hid (id_hz X hxl)
  clear hX hxl hq hfl hl hsl
  go_enter Try.func23, Try.ntmps23
  go_upto_region 1 with fail
  generalize hw2 : World.alloc (World.alloc _ _) _ = w2
  have B2 : Hid (Below w.heap.size w w2) := Lib.hid (by rw [← hw2]; exact ((Below.refl _ _).alloc (Nat.le_refl _) _).alloc (by simp) _)
  have HK : Hid (Bw w2 w.heap.size 30 q) := Lib.hid (by rw [← hw2]; exact (Bw.new w q _).alloc _)
  have HZ : Hid (Bw w2 (w.heap.size + 1) 30 (zer 32)) := Lib.hid (by rw [← hw2]; exact bw_second w q (zer 32) _ _)
  clear hw2
  refine wp_region_held_drew (S := fun W => Below w.heap.size w W) (by kernel_rfl) B2.out.drew (fun hHeld => ?_)
  refine wpAnyH_take (i := 0) (v := ?v0) (by simp only [List.getElem?_toArray, List.getElem?_cons_succ, List.getElem?_cons_zero]; rfl) (by kernel_rfl) (by kernel_rfl) (by kernel_rfl) (by exact fun _ _ _ h => h) (Or.inl ⟨by rfl, ?h0⟩) (by assumption) ?_
  case h0 => (intro W hSw; (try dsimp only at hSw); go_simp; try with_reducible rfl)
  try simp only [Act.put, List.setIfInBounds_toArray, List.set_cons_zero, List.set_cons_succ]
  refine wpAnyH_take (i := 1) (v := ?v1) (by simp only [List.getElem?_toArray, List.getElem?_cons_succ, List.getElem?_cons_zero]; rfl) (by kernel_rfl) (by kernel_rfl) (by kernel_rfl) (by exact fun _ _ _ h => h) (Or.inl ⟨by rfl, ?h1⟩) (by assumption) ?_
  case h1 => (intro W hSw; (try dsimp only at hSw); go_simp; try with_reducible rfl)
  try simp only [Act.put, List.setIfInBounds_toArray, List.set_cons_zero, List.set_cons_succ]
  refine wpAnyH_take (i := 3) (v := ?v3) (by simp only [List.getElem?_toArray, List.getElem?_cons_succ, List.getElem?_cons_zero]; rfl) (by kernel_rfl) (by kernel_rfl) (by kernel_rfl) (by exact fun _ _ _ h => h) (Or.inl ⟨by rfl, ?h3⟩) (by assumption) ?_
  case h3 => (intro W hSw; (try dsimp only at hSw); go_simp; try with_reducible rfl)
  try simp only [Act.put, List.setIfInBounds_toArray, List.set_cons_zero, List.set_cons_succ]
  refine wpAnyH_ready (rs := [2, 4]) (by kernel_rfl) (by simp) ?_
  refine AllReadyH.cons (by simp only [List.getElem?_toArray, List.getElem?_cons_succ, List.getElem?_cons_zero]; rfl) (fun K hK => ?_) (AllReadyH.cons (by simp only [List.getElem?_toArray, List.getElem?_cons_succ, List.getElem?_cons_zero]; rfl) (fun K hK => ?_) AllReadyH.nil)
  · refine step_conv (by rfl) (.tmp 8) rfl s rfl ?_
    intro bl nl cl w3 hbl hnl hcl hhl hb3
    rw [HLL.out] at hhl
    have HC := Lib.hid hcl
    have hS2 : Below w.heap.size w w3 := hHeld.trans (hb3.mono hHeld.size)
    refine hK _ _ hS2 (fun hH2 => ?_)
    clear hK K
    try simp only [Act.put, List.setIfInBounds_toArray, List.set_cons_zero, List.set_cons_succ]
    refine wpAnyH_ready (rs := [4]) (by kernel_rfl) (by simp) ?_
    refine AllReadyH.cons (by simp only [List.getElem?_toArray, List.getElem?_cons_succ, List.getElem?_cons_zero]; rfl) (fun K hK => ?_) AllReadyH.nil
    go_simp
    refine (eight_any v _ HV.out).mono ?_
    rintro e w4 ⟨A8, n8, c8, rfl, hown8, hb4⟩
    have hS4 : Below w.heap.size w w4 := hS2.trans (hb4.mono hS2.size)
    have hSa := hS4
    have HL := Lib.hid (hhl.on hb4)
    have HN := Lib.hid hown8.has
    have HC8 := Lib.hid hown8.caps.1
    have RW := Lib.hid (((Below.refl w2.heap.size w2).drew.trans (hb3.mono (Nat.le_refl _))).trans (hb4.mono hb3.size))
    refine hK _ _ hS4 (fun hH4 => ?_)
    clear hK K
    try simp only [Act.put, List.setIfInBounds_toArray, List.set_cons_zero, List.set_cons_succ]
    refine wpAnyH_ready (rs := [5]) (by kernel_rfl) (by simp) ?_
    refine AllReadyH.cons (by simp only [List.getElem?_toArray, List.getElem?_cons_succ, List.getElem?_cons_zero]; rfl) (fun K hK => ?_) AllReadyH.nil
    go_simp
    have hS5 : Below w.heap.size w (w4.alloc (.cells #[.slice (some ⟨bl, 0, none⟩) nl cl, .slice A8 n8 c8] 22)) := hSa.alloc hSa.size _
    refine hK _ _ hS5 (fun hH5 => ?_)
    clear hK K
    try simp only [Act.put, List.setIfInBounds_toArray, List.set_cons_zero, List.set_cons_succ]
    refine wpAnyH_ready (rs := [6]) (by kernel_rfl) (by simp) ?_
    refine AllReadyH.cons (by simp only [List.getElem?_toArray, List.getElem?_cons_succ, List.getElem?_cons_zero]; rfl) (fun K hK => ?_) AllReadyH.nil
    go_simp
    have hof := rmof_any (some ⟨w.heap.size, 0, none⟩) (some ⟨w4.heap.size, 0, none⟩) 32 32 2 2 q [l, be 8 v] _ (((HK.out.below RW.out HK.out.lt).has HQ.out.symm).alloc (Nat.le_refl _) _ |>.more (by simp)) (has_two (HL.out) (HN.out) HC.out HC8.out) (by omega) (by omega) (by have := HF.out; omega)
    rw [HX.out] at hof
    refine hof.mono ?_
    rintro e w7 ⟨rfl, hb7⟩
    have hS6 : Below w.heap.size w w7 := hS5.trans (hb7.mono hS5.size)
    have R7 := Lib.hid (RW.out.trans ((((Below.refl w4.heap.size w4).alloc (Nat.le_refl _) _).trans (hb7.mono (by simp))).mono RW.out.size))
    refine hK _ _ hS6 (fun hH6 => ?_)
    clear hK K
    try simp only [Act.put, List.setIfInBounds_toArray, List.set_cons_zero, List.set_cons_succ]
    refine wpAnyH_ready (rs := [7]) (by kernel_rfl) (by simp) ?_
    refine AllReadyH.cons (by simp only [List.getElem?_toArray, List.getElem?_cons_succ, List.getElem?_cons_zero]; rfl) (fun K hK => ?_) AllReadyH.nil
    refine step_store (by rfl) 30 (.tmp 6) (.tmp 13) rfl (w.heap.size + 1) (cellsB X).toArray rfl rfl 30 _ (HZ.out.below R7.out HZ.out.lt) IX.out XZ.out (cellsB_ones _) ?_
    have hS7 : Below w.heap.size w (w7.setRow (w.heap.size + 1) (cellsB X).toArray) := below_setRow hS6 (by omega) _
    refine hK _ _ hS7 (fun hH7 => ?_)
    clear hK K
    try simp only [Act.put, List.setIfInBounds_toArray, List.set_cons_zero, List.set_cons_succ]
    refine wpAnyH_done (by kernel_rfl) ?_ _
    go_wp2_with fail
    refine bodyPost_ret (v := .agg (cellsB X).toArray) ?_ (by rfl) ?_
    · exact results_cell_row (p := 6) (ty := 30) rfl _ _ (w.heap.size + 1) 30 (cellsB X).toArray _ _ rfl (setRow_heap _ _ _ _ 30 _ (HZ.out.below R7.out HZ.out.lt)) Try.underlying30 rfl IX.out
    · exact ⟨rfl, hS7⟩
  · go_simp
    refine (eight_any v _ HV.out).mono ?_
    rintro e w3 ⟨A8, n8, c8, rfl, hown8, hb3⟩
    have HC8 := Lib.hid hown8.caps.1
    have hS4 : Below w.heap.size w w3 := hHeld.trans (hb3.mono hHeld.size)
    refine hK _ _ hS4 (fun hH4 => ?_)
    clear hK K
    try simp only [Act.put, List.setIfInBounds_toArray, List.set_cons_zero, List.set_cons_succ]
    refine wpAnyH_ready (rs := [2]) (by kernel_rfl) (by simp) ?_
    refine AllReadyH.cons (by simp only [List.getElem?_toArray, List.getElem?_cons_succ, List.getElem?_cons_zero]; rfl) (fun K hK => ?_) AllReadyH.nil
    refine step_conv (by rfl) (.tmp 8) rfl s rfl ?_
    intro bl nl cl w4 hbl hnl hcl hhl hb4
    rw [HLL.out] at hhl
    have HC := Lib.hid hcl
    have hS2 : Below w.heap.size w w4 := hS4.trans (hb4.mono hS4.size)
    refine hK _ _ hS2 (fun hH2 => ?_)
    clear hK K
    try simp only [Act.put, List.setIfInBounds_toArray, List.set_cons_zero, List.set_cons_succ]
    have hSa := hS2
    have HL := Lib.hid hhl
    have HN := Lib.hid (hown8.has.on hb4)
    have RW := Lib.hid (((Below.refl w2.heap.size w2).drew.trans (hb3.mono (Nat.le_refl _))).trans (hb4.mono hb3.size))
    refine wpAnyH_ready (rs := [5]) (by kernel_rfl) (by simp) ?_
    refine AllReadyH.cons (by simp only [List.getElem?_toArray, List.getElem?_cons_succ, List.getElem?_cons_zero]; rfl) (fun K hK => ?_) AllReadyH.nil
    go_simp
    have hS5 : Below w.heap.size w (w4.alloc (.cells #[.slice (some ⟨bl, 0, none⟩) nl cl, .slice A8 n8 c8] 22)) := hSa.alloc hSa.size _
    refine hK _ _ hS5 (fun hH5 => ?_)
    clear hK K
    try simp only [Act.put, List.setIfInBounds_toArray, List.set_cons_zero, List.set_cons_succ]
    refine wpAnyH_ready (rs := [6]) (by kernel_rfl) (by simp) ?_
    refine AllReadyH.cons (by simp only [List.getElem?_toArray, List.getElem?_cons_succ, List.getElem?_cons_zero]; rfl) (fun K hK => ?_) AllReadyH.nil
    go_simp
    have hof := rmof_any (some ⟨w.heap.size, 0, none⟩) (some ⟨w4.heap.size, 0, none⟩) 32 32 2 2 q [l, be 8 v] _ (((HK.out.below RW.out HK.out.lt).has HQ.out.symm).alloc (Nat.le_refl _) _ |>.more (by simp)) (has_two (HL.out) (HN.out) HC.out HC8.out) (by omega) (by omega) (by have := HF.out; omega)
    rw [HX.out] at hof
    refine hof.mono ?_
    rintro e w7 ⟨rfl, hb7⟩
    have hS6 : Below w.heap.size w w7 := hS5.trans (hb7.mono hS5.size)
    have R7 := Lib.hid (RW.out.trans ((((Below.refl w4.heap.size w4).alloc (Nat.le_refl _) _).trans (hb7.mono (by simp))).mono RW.out.size))
    refine hK _ _ hS6 (fun hH6 => ?_)
    clear hK K
    try simp only [Act.put, List.setIfInBounds_toArray, List.set_cons_zero, List.set_cons_succ]
    refine wpAnyH_ready (rs := [7]) (by kernel_rfl) (by simp) ?_
    refine AllReadyH.cons (by simp only [List.getElem?_toArray, List.getElem?_cons_succ, List.getElem?_cons_zero]; rfl) (fun K hK => ?_) AllReadyH.nil
    refine step_store (by rfl) 30 (.tmp 6) (.tmp 13) rfl (w.heap.size + 1) (cellsB X).toArray rfl rfl 30 _ (HZ.out.below R7.out HZ.out.lt) IX.out XZ.out (cellsB_ones _) ?_
    have hS7 : Below w.heap.size w (w7.setRow (w.heap.size + 1) (cellsB X).toArray) := below_setRow hS6 (by omega) _
    refine hK _ _ hS7 (fun hH7 => ?_)
    clear hK K
    try simp only [Act.put, List.setIfInBounds_toArray, List.set_cons_zero, List.set_cons_succ]
    refine wpAnyH_done (by kernel_rfl) ?_ _
    go_wp2_with fail
    refine bodyPost_ret (v := .agg (cellsB X).toArray) ?_ (by rfl) ?_
    · exact results_cell_row (p := 6) (ty := 30) rfl _ _ (w.heap.size + 1) 30 (cellsB X).toArray _ _ rfl (setRow_heap _ _ _ _ 30 _ (HZ.out.below R7.out HZ.out.lt)) Try.underlying30 rfl IX.out
    · exact ⟨rfl, hS7⟩
end Go.Proofs.Ytkpmfpbeidhcbaa
