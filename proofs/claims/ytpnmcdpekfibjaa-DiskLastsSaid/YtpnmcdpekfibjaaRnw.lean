/-
  Own work. The document's disk: New.
-/
import Derived.Test.YtpnmcdpekfibjaaRwt
import Derived.Test.YtpnmcdpekfibjaaTk
namespace Go.Proofs.Ytpnmcdpekfibjaa
open Go.RowKit
set_option linter.unusedVariables false
set_option linter.unusedSimpArgs false

def zeroS : ByteArray := ⟨(List.replicate 512 (0 : UInt8)).toArray⟩
theorem zeroS_size : zeroS.size = 512 := by show (List.replicate 512 (0 : UInt8)).toArray.size = 512; rw [List.size_toArray, List.length_replicate]
theorem infoStr : (Try.prog.info? 9).map (fun i => (i.zero, i.size, i.bytes)) = some (some (.string emp), 1, 16) := by kernel_rfl
def newM (n : Nat) : RM := { last := List.replicate n zeroS, wait := List.replicate n emp, off := false, arms := -1, part := 0, way := -1, coming := emp, wrote := 0, powers := 0 }
theorem newM_ok (n : Nat) (h1 : 32 ≤ n) (h2 : n ≤ 4096) : (newM n).Ok n := by
  refine ⟨by simp [newM], by simp [newM], h1, h2, fun s hs => ?_, fun s hs => ?_, by simp [newM], by simp [newM], ?_, by show emp.size ≤ 512; decide, by simp [newM], by simp [newM]⟩
  · rw [List.eq_of_mem_replicate hs]; exact zeroS_size
  · rw [List.eq_of_mem_replicate hs]; exact .inl rfl
  · show (-1 : Int) ≤ -1 ∧ (-1 : Int) < n
    omega
theorem builtDisk : Try.prog.built 61 [(3, .int .i64 (-1)), (5, .int .i64 (-1))] = some #[.slice none 0 0, .slice none 0 0, .bool false, .int .i64 (-1), .int .i64 0, .int .i64 (-1), .string emp, .int .i64 0, .int .i64 0] := by kernel_rfl

theorem cell_newE {W : World} {v : Value} {t : TypeId} {b : Nat} (hb : b = W.heap.size) : ∀ j u, [v][j]? = some u → (W.alloc (.cells #[v] t)).cell? ((⟨b, 0, none⟩ : Addr).add j) = some u := by
  subst hb
  intro j u hu
  rw [Addr.add_lit, cell_of_row _ _ _ _ _ _ (heap_alloc_new W _)]
  simpa using hu
theorem cell_newF {W : World} {v : Value} {t : TypeId} {o : Obj} {b : Nat} (hb : b = W.heap.size) : ∀ j u, [v][j]? = some u → ((W.alloc (.cells #[v] t)).alloc o).cell? ((⟨b, 0, none⟩ : Addr).add j) = some u := by
  subst hb
  intro j u hu
  rw [World.cell?_alloc_lt _ _ _ (by rw [Addr.add_lit]; simp)]
  exact cell_newE rfl j u hu
theorem cell_thr {W w5 : World} {r : Option Nat} {b : Nat} {v : Value} (hg : W.grownBy w5 r) (hne : r ≠ some b) (hb : b < W.heap.size) (h : ∀ j u, [v][j]? = some u → W.cell? ((⟨b, 0, none⟩ : Addr).add j) = some u) : ∀ j u, [v][j]? = some u → w5.cell? ((⟨b, 0, none⟩ : Addr).add j) = some u := by
  intro j u hu
  rw [← h j u hu]
  rw [Addr.add_lit]
  unfold World.cell?
  show (match w5.heap[b]? with | _ => _) = _
  rw [hg.block b hb (fun e => hne e.symm)]
def nwC (s1 s2 : Value) : Array Value := #[s1, s2, .bool false, .int .i64 (-1), .int .i64 0, .int .i64 (-1), .string emp, .int .i64 0, .int .i64 0]
/-- A disk that grows: its block, its two rows. -/
structure NwS (wr : World) (g base k : Nat) (A1 A2 : Option Addr) (c1 c2 : Nat) (Z : ByteArray) : Prop where
  blk : wr.heap[g]? = some (.cells (nwC (.slice A1 k c1) (.slice A2 k c2)) 61 (0, 0))
  o1 : OwnV 9 wr base (.slice A1 k c1) (List.replicate k (.string Z))
  o2 : OwnV 9 wr base (.slice A2 k c2) (List.replicate k (.string emp))
  ap : ∀ x, (Value.slice A1 k c1).ownBlock = some x → (Value.slice A2 k c2).ownBlock ≠ some x
  gb : g < base
  bs : base ≤ wr.heap.size
theorem NwS.drew {wr : World} {g base k c1 c2 : Nat} {A1 A2 : Option Addr} {Z : ByteArray} (h : NwS wr g base k A1 A2 c1 c2 Z) : NwS wr.drew g base k A1 A2 c1 c2 Z := ⟨h.blk, h.o1, h.o2, h.ap, h.gb, h.bs⟩

theorem NwS.fin {w6 : World} {g base k c5 c6 : Nat} {A5 A6 : Option Addr} {Z : ByteArray} {s1 s2 : Value} (E6 : w6.heap[g]? = some (.cells (nwC s1 s2) 61 (0, 0)))
    (P6 : OwnV 9 w6 base (.slice A5 (k + 1) c5) (List.replicate k (.string Z) ++ [.string Z])) (O6 : OwnV 9 w6 base (.slice A6 (k + 1) c6) (List.replicate k (.string emp) ++ [.string emp]))
    (AP : ∀ x, (Value.slice A6 (k + 1) c6).ownBlock = some x → (Value.slice A5 (k + 1) c5).ownBlock ≠ some x) (gb : g < base) (bs : base ≤ w6.heap.size) :
    NwS ((w6.setCell ⟨g, 0, none⟩ (.slice A5 (k + 1) c5)).setCell ⟨g, 1, none⟩ (.slice A6 (k + 1) c6)) g base (k + 1) A5 A6 c5 c6 Z := by
  have ho : Only (fun x => x = g) w6 ((w6.setCell ⟨g, 0, none⟩ (.slice A5 (k + 1) c5)).setCell ⟨g, 1, none⟩ (.slice A6 (k + 1) c6)) := ((Only.refl _ _).setCell (S := fun x => x = g) rfl _).setCell rfl _
  refine ⟨?_, ?_, ?_, fun x h1 h2 => AP x h2 h1, gb, Nat.le_trans bs ho.size⟩
  · have h0 := heap_setCell_same w6 g 0 _ _ (.slice A5 (k + 1) c5) E6
    rw [heap_setCell_same _ g 1 _ _ (.slice A6 (k + 1) c6) h0]
    rfl
  · rw [List.replicate_succ']
    exact P6.only ho (fun x hx e => by have := (P6.lt x hx).1; omega)
  · rw [List.replicate_succ']
    exact O6.only ho (fun x hx e => by have := (O6.lt x hx).1; omega)
theorem OwnV.rowS {w : World} {base n c : Nat} {A : Option Addr} {l : List ByteArray} (h : OwnV 9 w base (.slice A n c) (l.map Value.string)) (hn : 0 < n) : ∃ g, A = some ⟨g, 0, none⟩ ∧ RowS w g c l ∧ base ≤ g := by
  have hl := h.len
  rcases h.form with ⟨e, hnil⟩ | ⟨g, c', cur, e, hb, hlt, hg, h1, h2, h3, h4⟩
  · rw [hnil] at hl
    simp at hl
    omega
  · simp only [Value.slice.injEq] at e
    obtain ⟨rfl, -, rfl⟩ := e
    exact ⟨g, rfl, ⟨cur, hg, h3, by rw [List.length_map] at h4; exact h4, by rw [List.length_map] at h1; exact h1, h2⟩, hb⟩
theorem own_ne {u v : Value} (h : ∀ x, u.ownBlock = some x → v.ownBlock ≠ some x) : v.ownBlock = none ∨ v.ownBlock ≠ u.ownBlock := by
  cases hv : v.ownBlock with
  | none => exact .inl rfl
  | some k => exact .inr (fun e => h k e.symm hv)
theorem own_fresh {E : TypeId} {w : World} {base s : Nat} {u u' v : Value} {hs : List Value} (h : ∀ x, u.ownBlock = some x → v.ownBlock ≠ some x) (ho : OwnV E w base v hs) (hs : w.heap.size ≤ s) (hat : u'.ownBlock = u.ownBlock ∨ u'.ownBlock = some s) : ∀ x, u'.ownBlock = some x → v.ownBlock ≠ some x := by
  intro x hx hv
  rcases hat with e | e
  · exact h x (e ▸ hx) hv
  · rw [e] at hx
    injection hx with hx
    have := (ho.lt x hv).2
    omega
theorem heap_old1 {W : World} {o : Obj} {g : Nat} (h : g < W.heap.size) : (W.alloc o).heap[g]? = W.heap[g]? := Below.heap_alloc W o g h
theorem heap_old2 {W : World} {o o' : Obj} {g : Nat} (h : g < W.heap.size) : ((W.alloc o).alloc o').heap[g]? = W.heap[g]? := (Below.heap_alloc _ o' g (by simp; omega)).trans (Below.heap_alloc W o g h)

set_option maxRecDepth 100000 in
set_option maxHeartbeats 2000000 in
theorem rnew_any (w : World) (n : Nat) (h1 : 32 ≤ n) (h2 : n ≤ 4096) :
    Calls Try.prog 12 #[.int .i64 (n : Int)] w fun e w' => ∃ g gl gw cl cw, e = .returned (.pointer (some ⟨g, 0, none⟩)) ∧ RefD w' g gl gw n cl cw (newM n) ∧ w.heap.size ≤ g ∧ w.heap.size ≤ gl ∧ w.heap.size ≤ gw ∧ Below w.heap.size w w' := by
  obtain ⟨Z, hZ⟩ : ∃ Z : ByteArray, zeroS = Z := ⟨_, rfl⟩
  have hM : newM n = { last := List.replicate n Z, wait := List.replicate n emp, off := false, arms := -1, part := 0, way := -1, coming := emp, wrote := 0, powers := 0 } := by rw [← hZ]; rfl
  rw [hM]
  have HZ := Lib.hid hZ
  clear hM hZ
  go_enter Try.func12, Try.ntmps12
  go_upto_region 5 with (first
    | (at_make; refine wp_mk _ rfl _ _ rfl Try.underlying29 infoU8 (w.heap.size + 1) _ _ _ _ 512 rfl rfl rfl rfl (by omega) (by simp) ?_; intro w3 hown3 hb3
       have k3 := run_conv (P := Try.prog) Try.underlying29 Try.underlying5 Try.underlying9 _ _ 512 512 _ hown3.has
       rw [show (⟨(List.replicate 512 (0 : UInt8)).toArray⟩ : ByteArray) = Z from HZ.out] at k3
       have K3 := Lib.hid k3
       have B3 := Lib.hid hb3
       clear hown3 hb3 k3)
    | (refine wpList_convG rfl 29 9 (.tmp 14) rfl _ _ rfl K3.out ?_))
  have hblk : w3.heap[w.heap.size]? = some (.cells #[.slice none 0 0, .slice none 0 0, .bool false, .int .i64 (-1), .int .i64 0, .int .i64 (-1), .string emp, .int .i64 0, .int .i64 0] 61 (0, 0)) := by
    rw [B3.out.block w.heap.size (by simp)]
    exact heap_alloc_new w _
  have hbw : Below w.heap.size w w3 := ((Below.refl w.heap.size w).alloc (Nat.le_refl _) _).trans (B3.out.mono (by omega))
  go_wp2_with fail
  obtain ⟨g, hg⟩ : ∃ g, w.heap.size = g := ⟨_, rfl⟩
  rw [hg] at hblk
  have hgs : g < w3.heap.size := (Array.getElem?_eq_some_iff.1 hblk).1
  have HG := Lib.hid hg
  have HBW := Lib.hid hbw
  have HBK := Lib.hid hblk
  rw [hg]
  clear hbw hblk hg
  obtain ⟨base, hbase⟩ : ∃ base, w3.heap.size = base := ⟨_, rfl⟩
  rw [hbase] at hgs
  have HB := Lib.hid hbase
  clear hbase
  go_loopw [5] (fun x wr => ∃ (k c1 c2 : Nat) (A1 A2 : Option Addr), k ≤ n ∧ x = .int .i64 (k : Int) ∧ NwS wr g base k A1 A2 c1 c2 Z ∧ Below w.heap.size w wr) (fun x _ => n - (intOf x).toNat)
  case atStart => exact ⟨0, 0, 0, none, none, by omega, rfl, ⟨HBK.out, OwnV.nil _ _ _, OwnV.nil _ _ _, fun x hx => (by cases hx), hgs, by rw [HB.out]; exact Nat.le_refl _⟩, HBW.out⟩
  case round =>
    obtain ⟨k, c1, c2, A1, A2, hk, rfl, hN, hbel⟩ := hrel
    by_cases hlt : k < n
    · have k0 : wr.cell? ⟨g, 0, none⟩ = some (.slice A1 k c1) := cell_of_row wr g 0 _ _ (0, 0) hN.blk
      have k1 : wr.cell? ⟨g, 1, none⟩ = some (.slice A2 k c2) := cell_of_row wr g 1 _ _ (0, 0) hN.blk
      have f0 := frozen_of_row wr g 0 _ _ hN.blk
      have f1 := frozen_of_row wr g 1 _ _ hN.blk
      have N := Lib.hid hN
      have ND := Lib.hid hN.drew
      have B := Lib.hid hbel
      clear hN hbel
      go_wp2_with fail
      have glt : g < wr.heap.size := by have := N.out.gb; have := N.out.bs; omega
      go_region_law (first
        | (refine step_appV (by rfl) (.tmp 33) (.tmp 34) 59 9 _ 16 rfl Try.underlying59 infoStr rfl base _ (List.replicate k (.string emp)) [.string emp] rfl ?_ _ _ _ rfl rfl ?_ (by simp [Value.oneCell']) (by simp; omega) ?_ ?_
           · first | exact P5.out | exact (P5.out.alloc _)
           · first | exact cell_newE rfl | exact cell_thr HG5.out (fun e => by have := (N.out.o1.lt _ e).2; omega) (by first | (simp; done) | (simp; omega)) (cell_newF (W := wr) rfl) | exact cell_thr HG5.out (fun e => by have := (N.out.o1.lt _ e).2; omega) (by first | (simp; done) | (simp; omega)) (cell_newE (by simp))
           · have := S5.out
             (try simp at *)
             omega
           intro A6 n6 c6 w6 hown6 hg6 hb6 hat6
           have hn6 : n6 = k + 1 := by have := hown6.len; simpa using this
           subst hn6
           have e6 : w6.heap[g]? = some (.cells (nwC (.slice A1 k c1) (.slice A2 k c2)) 61 (0, 0)) := (hb6.block g ND.out.gb).trans (by first | exact E5.out | exact (heap_old1 H5.out).trans E5.out)
           have q0 : w6.cell? ⟨g, 0, none⟩ = some (.slice A1 k c1) := cell_of_row w6 g 0 _ _ (0, 0) e6
           have q1 : w6.cell? ⟨g, 1, none⟩ = some (.slice A2 k c2) := cell_of_row w6 g 1 _ _ (0, 0) e6
           have fz0 := frozen_of_row w6 g 0 _ _ e6
           have fz1 := frozen_of_row w6 g 1 _ _ e6
           have O6 := Lib.hid hown6
           have P6 : Hid (OwnV 9 w6 base (.slice A5 (k + 1) c5) (List.replicate k (.string Z) ++ [.string Z])) := Lib.hid (by first | exact O5.out.kept hg6 (own_ne (fun x h1 h2 => AP5.out x h2 h1)) | exact (O5.out.alloc _).kept hg6 (own_ne (fun x h1 h2 => AP5.out x h2 h1)))
           have AP6 : Hid (∀ x, (Value.slice A6 (k + 1) c6).ownBlock = some x → (Value.slice A5 (k + 1) c5).ownBlock ≠ some x) := Lib.hid (own_fresh (fun x h1 h2 => AP5.out x h2 h1) O5.out (by first | exact Nat.le_refl _ | (simp; done) | (simp; omega)) hat6)
           have E6 := Lib.hid e6
           have B6 : Hid (Below w.heap.size w w6) := Lib.hid (by first | exact B5.out.trans (hb6.mono LB.out) | exact (B5.out.alloc B5.out.size _).trans (hb6.mono LB.out))
           have S6 : Hid (base ≤ w6.heap.size) := Lib.hid (by have := S5.out; have := hb6.size; (try simp at this); omega)
           clear hown6 hg6 hb6 hat6 e6)
        | (refine step_appV (by rfl) (.tmp 26) (.tmp 28) 59 9 _ 16 rfl Try.underlying59 infoStr rfl base _ (List.replicate k (.string Z)) [.string Z] rfl ?_ _ _ _ rfl rfl ?_ (by simp [Value.oneCell']) (by simp; omega) ?_ ?_
           · first | exact (ND.out.o1.alloc _) | exact ((ND.out.o1.alloc _).alloc _)
           · first | exact cell_newE (W := wr) rfl | exact cell_newF (W := wr) rfl | exact cell_newE (by simp)
           · have := ND.out.bs
             simp at *
             omega
           intro A5 n5 c5 w5 hown5 hg5 hb5 hat5
           have hn5 : n5 = k + 1 := by have := hown5.len; simpa using this
           subst hn5
           have e5 : w5.heap[g]? = some (.cells (nwC (.slice A1 k c1) (.slice A2 k c2)) 61 (0, 0)) := (hb5.block g ND.out.gb).trans (by first | exact (heap_old1 (W := wr) glt).trans N.out.blk | exact (heap_old2 (W := wr) glt).trans N.out.blk)
           have q0 : w5.cell? ⟨g, 0, none⟩ = some (.slice A1 k c1) := cell_of_row w5 g 0 _ _ (0, 0) e5
           have q1 : w5.cell? ⟨g, 1, none⟩ = some (.slice A2 k c2) := cell_of_row w5 g 1 _ _ (0, 0) e5
           have h5lt : g < w5.heap.size := (Array.getElem?_eq_some_iff.1 e5).1
           have O5 := Lib.hid hown5
           have P5 : Hid (OwnV 9 w5 base (.slice A2 k c2) (List.replicate k (.string emp))) := Lib.hid (by first | exact (ND.out.o2.alloc _).kept hg5 (own_ne ND.out.ap) | exact ((ND.out.o2.alloc _).alloc _).kept hg5 (own_ne ND.out.ap))
           have AP5 : Hid (∀ x, (Value.slice A5 (k + 1) c5).ownBlock = some x → (Value.slice A2 k c2).ownBlock ≠ some x) := Lib.hid (own_fresh ND.out.ap ND.out.o2 (by simp; try omega) hat5)
           have E5 := Lib.hid e5
           have H5 := Lib.hid h5lt
           have LB : Hid (w.heap.size ≤ base) := Lib.hid (by have := HG.out; have := ND.out.gb; omega)
           have B5 : Hid (Below w.heap.size w w5) := Lib.hid (by first | exact (B.out.drew.alloc B.out.size _).trans (hb5.mono LB.out) | exact ((B.out.drew.alloc B.out.size _).alloc (by have := B.out.size; simp; omega) _).trans (hb5.mono LB.out))
           have S5 : Hid (base ≤ w5.heap.size) := Lib.hid (by have := ND.out.bs; have := hb5.size; simp at *; omega)
           have HG5 := Lib.hid hg5
           clear hown5 hg5 hb5 hat5 e5))
      all_goals
        have FIN := Lib.hid (NwS.fin E6.out P6.out O6.out AP6.out N.out.gb S6.out)
        have FB := Lib.hid ((B6.out.setCell (p := ⟨g, 0, none⟩) (show w.heap.size ≤ g from Nat.le_of_eq HG.out) (.slice A5 (k + 1) c5)).setCell (p := ⟨g, 1, none⟩) (show w.heap.size ≤ g from Nat.le_of_eq HG.out) (.slice A6 (k + 1) c6))
        clear O5 P5 AP5 E5 B5 S5 O6 P6 AP6 E6 B6 S6
        go_wp2_with fail
        go_roundw
        case rel => exact ⟨k + 1, c5, c6, A5, A6, by omega, by go_num, FIN.out, FB.out⟩
        case measure => simp [intOf]; omega
    · obtain rfl : k = n := by omega
      have N := Lib.hid hN
      have B := Lib.hid hbel
      clear hN hbel
      go_wp2_with fail
      go_ret
      have o1 := N.out.o1
      have o2 := N.out.o2
      rw [show List.replicate k (Value.string Z) = (List.replicate k Z).map Value.string by rw [List.map_replicate]] at o1
      rw [show List.replicate k (Value.string emp) = (List.replicate k emp).map Value.string by rw [List.map_replicate]] at o2
      obtain ⟨gl, rfl, r1, hb1⟩ := o1.rowS (by omega)
      obtain ⟨gw, rfl, r2, hb2⟩ := o2.rowS (by omega)
      have gb := N.out.gb
      have hg := HG.out
      refine ⟨g, gl, gw, c1, c2, rfl, ⟨N.out.blk, r1, r2, by omega, by omega, fun e => N.out.ap gl rfl (by rw [e]; rfl)⟩, by omega, by omega, by omega, B.out⟩
end Go.Proofs.Ytpnmcdpekfibjaa
