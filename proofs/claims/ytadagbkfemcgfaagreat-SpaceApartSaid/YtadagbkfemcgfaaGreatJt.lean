/-
  Own work. The journal: isHome, changesOf, take.
-/
import Derived.Test.YtadagbkfemcgfaaGreatJr
import Derived.Test.YtadagbkfemcgfaaGreatG4
namespace Go.Proofs.YtadagbkfemcgfaaGreat
open Go.RowKit Go.Maps
set_option linter.unusedVariables false
set_option linter.unusedSimpArgs false

section
variable {Z : DK} {w w' : World} {g gd gp n : Nat} {S T : Nat → Prop} {e : Int} {j : JM} {m : RM}
set_option maxRecDepth 100000 in
theorem jishome_any (i : Int) (h : JO w g gd gp n e j) (d : Z.D w gd S n m) (ok : m.Ok n) (hi : -9223372036854775808 ≤ i ∧ i ≤ 9223372036854775807) : Calls Tryz.prog 66 #[.pointer (some ⟨g, 0, none⟩), .int .i64 i] w (RetV2 w (.bool (decide (0 ≤ i ∧ i < (j.homes n : Int))))) := by
  have C := Lib.hid (jhomes_any h d ok)
  have n2 := ok.n2
  have hn : j.homes n ≤ 4096 := by show n - 2 - j.k.ring ≤ 4096; omega
  obtain ⟨H, hH⟩ : ∃ H, j.homes n = H := ⟨_, rfl⟩
  rw [hH] at C hn ⊢
  obtain ⟨i1, i2⟩ := hi
  clear h d ok hH
  by_cases h0 : 0 ≤ i
  · have h0' : decide (0 ≤ i) = true := decide_eq_true h0
    obtain ⟨b, hb⟩ : ∃ b, decide (i < (H : Int)) = b := ⟨_, rfl⟩
    have hb2 : decide (0 ≤ i ∧ i < (H : Int)) = b := by rw [← hb, Bool.eq_iff_iff, decide_eq_true_iff, decide_eq_true_iff]; omega
    rw [hb2]
    clear hb2
    go_enter Tryz.func66, Tryz.ntmps66
    go_wp2_with (go_at_call 64; refine C.out.mono ?_; rintro e w1 ⟨rfl, b1⟩)
    go_ret
    exact ⟨rfl, b1⟩
  · have h0' : decide (0 ≤ i) = false := decide_eq_false h0
    rw [decide_eq_false (fun hh => h0 hh.1)]
    go_enter Tryz.func66, Tryz.ntmps66
    go_wp2_with fail
    go_ret
    exact ⟨rfl, Below.refl _ _⟩
theorem takeF_snoc (f : List ByteArray) (l : List Ch) (k : Nat) (c : Ch) (h : l[k]? = some c) : takeF f (l.take (k + 1)) = (takeF f (l.take k)).set c.home (strB c.data) := by
  rw [List.take_add_one, h]
  unfold takeF
  rw [List.foldl_append]
  rfl
theorem takeF_len (f : List ByteArray) (l : List Ch) : (takeF f l).length = f.length := by
  unfold takeF
  induction l generalizing f with
  | nil => rfl
  | cons c r ih => rw [List.foldl_cons, ih]; simp
theorem takeF_sz (f : List ByteArray) (l : List Ch) (hl : ChOk l) (h : ∀ s ∈ f, s.size = 0 ∨ s.size = 512) : ∀ s ∈ takeF f l, s.size = 0 ∨ s.size = 512 := by
  unfold takeF
  induction l generalizing f with
  | nil => exact h
  | cons c r ih =>
    rw [List.foldl_cons]
    refine ih (f.set c.home (strB c.data)) (fun d hd => hl d (by simp [hd])) (fun s hs => ?_)
    rcases List.mem_or_eq_of_mem_set hs with h4 | h4
    · exact h s h4
    · rw [h4]
      right
      rw [strB_size]
      exact hl c (by simp)
theorem JO.sizeH (h : JO w g gd gp n e j) (hn : n ≤ 4096) : j.homes n < 4096 := by
  have := h.ok.r1
  show n - 2 - j.k.ring < 4096
  omega
/-- A change is fresh now. -/
theorem MapOf.put' {D : DU} {N : Nat} {f : List ByteArray} (h : MapOf D N f) (hf : f.length = N) {i : Nat} (hi : i < N) {l : List UInt8} (hl : l.length = 512) : MapOf (D.put (kI i) (.lit (.string l))) N (f.set i (strB l)) := by
  have h1 := h.put hf hi (s := strB l) (by rw [strB_size, hl]; decide)
  have e : lst (strB l) = l := by simp [lst, strB]
  rwa [e] at h1
set_option maxRecDepth 100000 in
set_option maxHeartbeats 2000000 in
theorem jtake_any (gl nl cl : Nat) (l : List Ch) (h : JO w g gd gp n e j) (hn : n ≤ 4096) (hc : CB w gl l) (hok : ChOk l) (hl : nl = l.length) (hl1 : nl ≤ 1024) (hh : ∀ c ∈ l, c.home < j.homes n) (hu : j.used ≤ 1073740000) (ht : j.k.turn < 9223372036854775000) (hg1 : gl ≠ g) (hg2 : gl ≠ gp) :
    Calls Tryz.prog 55 #[.pointer (some ⟨g, 0, none⟩), .slice (some ⟨gl, 0, none⟩) nl cl] w (fun en w' => en = .returned (.tuple #[]) ∧ JO w' g gd gp n e (j.take l) ∧ Only (fun k => k = g ∨ k = gp) w w') := by
  have hgl := hc.lt
  have HL := Lib.hid hl
  have HOK := Lib.hid hok
  have HH := Lib.hid hh
  have HC := Lib.hid hc
  have H := Lib.hid h
  have hlt := h.lt
  have hltp := h.ltp
  have HN : Hid (j.homes n < 4096) := Lib.hid (h.sizeH hn)
  have hne := h.ne
  clear h hc hok hl hh
  go_enter Tryz.func55, Tryz.ntmps55
  go_wp2_with fail
  go_loopw [9] (fun i wr => ∃ k : Nat, k ≤ nl ∧ i = .int .i64 (k : Int) ∧ wr.heap[g]? = some (.cells (jC gd gp e j) 104 (0, 0)) ∧ (∃ D : DU, wr.ownsMap Tryz.prog 3 secElem gp (j.used + k) D ∧ MapOf D (j.homes n) (takeF j.fresh (l.take k))) ∧ Only (fun k => k = g ∨ k = gp) w wr) (fun i _ => nl - (Go.RowKit.intOf i).toNat)
  case atStart =>
    obtain ⟨D, hm, hD⟩ := H.out.map
    exact ⟨0, by omega, rfl, H.out.blk, ⟨D, hm, by rw [List.take_zero]; exact hD⟩, Only.refl _ _⟩
  case round =>
    obtain ⟨k, hk, rfl, qb, ⟨D, qm, qD⟩, qo⟩ := hrel
    by_cases hlt' : k < nl
    · obtain ⟨c, hc⟩ : ∃ c, l[k]? = some c := ⟨_, List.getElem?_eq_getElem (by have := HL.out; omega)⟩
      have hcl : c.data.length = 512 := HOK.out c (List.mem_of_getElem? hc)
      have hch : c.home < j.homes n := HH.out c (List.mem_of_getElem? hc)
      have ld := (HC.out.only qo (by omega)).load HOK.out hc
      have LD := Lib.hid ld
      have ZN := Lib.hid (heap_alloc_new wr (.cells Tryz.zeroCells133 133))
      have HCL := Lib.hid hcl
      have HCH := Lib.hid hch
      have QB := Lib.hid qb
      have QM := Lib.hid qm
      have QD := Lib.hid qD
      have QO := Lib.hid qo
      have SN := Lib.hid (takeF_snoc j.fresh l k c hc)
      have bg : g < wr.heap.size := (Array.getElem?_eq_some_iff.1 qb).1
      have bgp : gp < wr.heap.size := qm.lt
      clear ld hcl hch qb qm qD qo hc
      go_upto_region 3 with (first
        | (refine wp_loadA rfl _ (.tmp 11) rfl ⟨gl, k * 513, none⟩ rfl _ LD.out ?_)
        | (refine wp_store_ch rfl (.tmp 5) (.tmp 12) rfl wr.heap.size c rfl rfl _ ZN.out zcCh HCL.out ?_; intro w5 q5 o5
           have Q5 := Lib.hid q5
           have O5 := Lib.hid (((Below.refl _ wr).alloc (Nat.le_refl _) _).trans (o5.to_below (B := wr.heap.size) (fun k hk => by omega) (by simp)))
           clear q5 o5))
      have B5 := Lib.hid ((O5.out.block g bg).trans QB.out)
      have M5 := Lib.hid (ownsMap_only QM.out (Only.of_below (S := fun _ => False) O5.out (Nat.le_refl _)) (fun h => h))
      have k8 : w5.cell? ⟨g, 8, none⟩ = some (.map (some gp)) := cell_of_row w5 g 8 _ _ (0, 0) B5.out
      have k0 := Q5.out.home
      have LS : Hid ((loadVar 98 ⟨wr.heap.size, 1, none⟩).run Tryz.prog w5.drew = .ok (.agg (cellsB c.data).toArray) w5.drew) := Lib.hid (Cb1.sec (w := w5.drew) Q5.out HCL.out)
      have M5d : Hid (w5.drew.ownsMap Tryz.prog 3 secElem gp (j.used + k) D) := Lib.hid (ownsMap_only M5.out (Only.refl (fun _ => False) w5).drew (fun h => h))
      have B5d : Hid (w5.drew.heap[g]? = some (.cells (jC gd gp e j) 104 (0, 0))) := Lib.hid B5.out
      have O5d : Hid (Only (fun k => k = g ∨ k = gp) w w5.drew) := Lib.hid ((QO.out.trans (Only.of_below O5.out (Nat.le_refl _))).drew)
      go_still_tail 8, (by kernel_rfl)
      refine wpStill_step (fun K hK => ?_)
      refine stillLd rfl rfl LS.out ?_
      refine hK _ ?_
      clear hK K
      refine wpStill_nil ?_
      change wpList _ _ _ _ _ w5.drew
      try simp only [Act.put, List.setIfInBounds_toArray, List.set_cons_zero, List.set_cons_succ]
      go_wp2_with (at_mapUpdate; refine wpList_mapUpdate_own w5.drew rfl (.tmp 16) (.tmp 18) (.tmp 20) 102 rfl 3 98 intK Tryz.underlying102 secElem gp (j.used + k) D rfl M5d.out (by simp only [maxLen]; omega) _ _ (kI c.home) rfl rfl (keyI (by have := HCH.out; have := HN.out; omega)) (.lit (.string c.data)) [] (secElem_mk HCL.out) ?_; intro w6 own6 g6
                   have OW6 := Lib.hid own6
                   have O6 := Lib.hid (Only.grown g6)
                   clear own6 g6)
      go_roundw
      case rel =>
        refine ⟨k + 1, by omega, by go_num, (O6.out.block g (Array.getElem?_eq_some_iff.1 B5d.out).1 hne).trans B5d.out, ⟨_, OW6.out, ?_⟩, O5d.out.trans' O6.out (fun k _ hk => .inr hk)⟩
        rw [SN.out]
        exact QD.out.put' (by rw [takeF_len]; exact H.out.ok.fl) HCH.out HCL.out
      case measure => simp [Go.RowKit.intOf]; omega
    · obtain rfl : k = nl := by omega
      have hfull : l.take k = l := by rw [HL.out]; exact List.take_length
      rw [hfull] at qD
      have hfit := H.out.ok.fit
      have hok := H.out.ok
      obtain ⟨x, hx⟩ : ∃ x, j.k.ahead (k + 1) = x := ⟨_, rfl⟩
      have hxr : x < j.k.ring := by rw [← hx]; exact Nat.mod_lt _ (by have := hok.r1; omega)
      have hr2 := hok.r2
      have hus := hok.us
      have htn := hok.tn
      have CA : Hid (∀ W, Calls Tryz.prog 81 #[.agg #[.int .u64 (j.k.num : Int), .int .u64 (j.k.turn : Int), .int .u32 (j.k.pos : Int), .int .u32 (j.k.ring : Int)], .int .i64 ((k : Int) + 1)] W (RetV2 W (.int .u32 (x : Int)))) := Lib.hid (fun W => by
        have := ahead_any j.k (k + 1) W hfit (by have := hok.r1; omega) (by omega)
        rw [hx] at this
        exact this)
      have ej : j.take l = { j with k := { j.k with pos := x, turn := j.k.turn + 1 }, used := j.used + (k + 1), fresh := takeF j.fresh l } := by
        unfold JM.take
        rw [← HL.out, hx]
      have okT : (j.take l).Ok n := by
        rw [ej]
        exact ⟨hok.nm, by show j.k.turn + 1 < _; omega, hok.r1, hok.r2, hok.r3, hxr, hok.lv, by show j.used + (k + 1) ≤ _; omega, (takeF_len _ _).trans hok.fl, takeF_sz _ _ HOK.out hok.fs⟩
      rw [ej] at okT
      have EJ := Lib.hid ej
      obtain ⟨a, ha⟩ : ∃ a, j.k.num = a := ⟨_, rfl⟩
      obtain ⟨b, hb⟩ : ∃ b, j.k.turn = b := ⟨_, rfl⟩
      obtain ⟨c, hcc⟩ : ∃ c, j.k.pos = c := ⟨_, rfl⟩
      obtain ⟨r, hr⟩ : ∃ r, j.k.ring = r := ⟨_, rfl⟩
      obtain ⟨u, huu⟩ : ∃ u, j.used = u := ⟨_, rfl⟩
      have ejC : jC gd gp e j = #[.pointer (some ⟨gd, 0, none⟩), .int .i64 e, .int .u64 (a : Int), .int .u64 (b : Int), .int .u32 (c : Int), .int .u32 (r : Int), .int .i64 (j.lives : Int), .int .i64 (u : Int), .map (some gp)] := by unfold jC; rw [ha, hb, hcc, hr, huu]
      rw [ejC] at qb
      have OKT := Lib.hid okT
      have QD := Lib.hid qD
      have QM := Lib.hid qm
      have QO := Lib.hid qo
      have QB := Lib.hid qb
      have hgw : g < wr.heap.size := (Array.getElem?_eq_some_iff.1 qb).1
      have cells : ∀ W : World, W.heap[g]? = some (.cells #[.pointer (some ⟨gd, 0, none⟩), .int .i64 e, .int .u64 (a : Int), .int .u64 (b : Int), .int .u32 (c : Int), .int .u32 (r : Int), .int .i64 (j.lives : Int), .int .i64 (u : Int), .map (some gp)] 104 (0, 0)) → W.cell? ⟨g, 2, none⟩ = some (.int .u64 (a : Int)) ∧ W.cell? ⟨g, 3, none⟩ = some (.int .u64 (b : Int)) ∧ W.cell? ⟨g, 4, none⟩ = some (.int .u32 (c : Int)) ∧ W.cell? ⟨g, 5, none⟩ = some (.int .u32 (r : Int)) ∧ W.cell? ⟨g, 7, none⟩ = some (.int .i64 (u : Int)) ∧ W.frozen? ⟨g, 3, none⟩ = false ∧ W.frozen? ⟨g, 4, none⟩ = false ∧ W.frozen? ⟨g, 7, none⟩ = false := fun W hW =>
        ⟨cell_of_row W g 2 _ _ (0, 0) hW, cell_of_row W g 3 _ _ (0, 0) hW, cell_of_row W g 4 _ _ (0, 0) hW, cell_of_row W g 5 _ _ (0, 0) hW, cell_of_row W g 7 _ _ (0, 0) hW, frozen_of_row W g 3 _ _ hW, frozen_of_row W g 4 _ _ hW, frozen_of_row W g 7 _ _ hW⟩
      have CE := Lib.hid cells
      obtain ⟨k2, k3, k4, k5, k7, _, _, _⟩ := cells wr qb
      have e1 : IntKind.i64.wrap ((u : Int) + ((k : Int) + 1)) = (u : Int) + ((k : Int) + 1) := by rw [IntKind.wrap_i64]; omega
      have e2 : IntKind.u64.wrap ((b : Int) + 1) = (b : Int) + 1 := by rw [IntKind.wrap_u64]; omega
      have e3 : IntKind.i64.wrap ((k : Int) + 1) = (k : Int) + 1 := by rw [IntKind.wrap_i64]; omega
      rw [ha, hb, hcc, hr] at CA
      have JB := Lib.hid (And.intro ha (And.intro hb (And.intro hcc (And.intro hr huu))))
      clear qb qD qm qo okT ej hx hxr hfit hok hfull ejC cells ha hb hcc hr huu
      go_wp2_with (go_at_call 81; refine (CA.out _).mono ?_; rintro en w1 ⟨rfl, b1⟩
                   have q1 := (b1.block g hgw).trans QB.out
                   obtain ⟨n2', n3, n4, n5, n7, f3, f4, f7⟩ := CE.out w1 q1
                   have Q1 := Lib.hid q1
                   have B1 := Lib.hid b1
                   clear q1 b1)
      go_end0
      rw [EJ.out]
      obtain ⟨ha, hb, hcc, hr, huu⟩ := JB.out
      have r1 := heap_setCell_same w1 g 4 _ 104 (.int .u32 (x : Int)) Q1.out
      have r2 := heap_setCell_same _ g 3 _ 104 (.int .u64 ((b : Int) + 1)) r1
      have r3 := heap_setCell_same _ g 7 _ 104 (.int .i64 ((u : Int) + ((k : Int) + 1))) r2
      have ow : Only (fun k => k = g) w1 (((w1.setCell ⟨g, 4, none⟩ (.int .u32 (x : Int))).setCell ⟨g, 3, none⟩ (.int .u64 ((b : Int) + 1))).setCell ⟨g, 7, none⟩ (.int .i64 ((u : Int) + ((k : Int) + 1)))) := (((Only.refl _ w1).cell1 4 _).cell1 3 _).cell1 7 _
      refine ⟨rfl, ⟨r3.trans ?_, ⟨D, ?_, QD.out⟩, OKT.out, hne⟩, ?_⟩
      · unfold jC
        show some (Obj.cells (((#[_, _, _, _, _, _, _, _, _] : Array Value).setIfInBounds 4 _).setIfInBounds 3 _ |>.setIfInBounds 7 _) _ _) = some (Obj.cells #[_, _, .int .u64 (j.k.num : Int), .int .u64 ((j.k.turn + 1 : Nat) : Int), .int .u32 (x : Int), .int .u32 (j.k.ring : Int), _, .int .i64 ((j.used + (k + 1) : Nat) : Int), _] _ _)
        rw [ha, hb, hr, huu]
        rfl
      · refine (ownsMap_only (ownsMap_only QM.out (Only.of_below (S := fun _ => False) B1.out (Nat.le_refl _)) (fun h => h)) ow (fun hh => hne hh.symm)).mono ?_
        show j.used + k ≤ j.used + (k + 1)
        omega
      · exact ((QO.out.trans (Only.of_below B1.out (Nat.le_refl _))).trans' ow (fun k _ hk => .inl hk))
end
end Go.Proofs.YtadagbkfemcgfaaGreat
