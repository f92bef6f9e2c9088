/-
  Own work. The document's disk: Copy.
-/
import Derived.Test.YtpnmcdpekfibjaaRnw
namespace Go.Proofs.Ytpnmcdpekfibjaa
open Go.RowKit
set_option linter.unusedVariables false
set_option linter.unusedSimpArgs false

theorem infoDisk : (Try.prog.info? 61).map (·.size) = some 9 := by kernel_rfl
theorem rdC_ones (gl gw n cl cw : Nat) (m : RM) : (rdC gl gw n cl cw m).all (·.oneCell') = true := by
  rw [Array.all_eq_true]
  intro i hi
  have hm : (rdC gl gw n cl cw m)[i] ∈ (rdC gl gw n cl cw m) := Array.getElem_mem hi
  revert hm
  generalize (rdC gl gw n cl cw m)[i] = v
  intro hm
  simp only [rdC, List.mem_toArray, List.mem_cons, List.not_mem_nil, or_false] at hm
  rcases hm with rfl | rfl | rfl | rfl | rfl | rfl | rfl | rfl | rfl <;> rfl
theorem RefD.load {w : World} {g gl gw n cl cw : Nat} {m : RM} (h : RefD w g gl gw n cl cw m) : (loadVar 61 ⟨g, 0, none⟩).run Try.prog w = .ok (.agg (rdC gl gw n cl cw m)) w :=
  run_loadVar_row w g _ 61 _ (0, 0) _ h.blk Try.underlying61 rfl infoDisk
theorem zeroDisk : (Try.prog.info? 61).bind (·.zero) = some (.agg #[.slice none 0 0, .slice none 0 0, .bool false, .int .i64 0, .int .i64 0, .int .i64 0, .string emp, .int .i64 0, .int .i64 0]) := by kernel_rfl

theorem RowS.alloc {w : World} {g c : Nat} {l : List ByteArray} (h : RowS w g c l) (o : Obj) : RowS (w.alloc o) g c l := h.keep (Below.heap_alloc w o g h.lt)
theorem RowS.news {w : World} {g c : Nat} {l : List ByteArray} (h : RowS w g c l) : ∀ j u, (l.map Value.string)[j]? = some u → w.cell? ((⟨g, 0, none⟩ : Addr).add j) = some u := by
  intro j u hu
  rw [List.getElem?_map, Option.map_eq_some_iff] at hu
  obtain ⟨s, hs, rfl⟩ := hu
  rw [Addr.add_lit, Nat.zero_add]
  exact h.cell hs
theorem OwnV.emptyE {E : TypeId} {W : World} {base b : Nat} (hb : b = W.heap.size) (h : base ≤ b) : OwnV E (W.alloc (.cells #[] E)) base (.slice (some ⟨b, 0, none⟩) 0 0) [] := by
  subst hb
  exact ⟨by simp, .inr ⟨W.heap.size, 0, #[], rfl, h, heap_alloc_new W _, Nat.le_refl _, by simp, by simp, by simp⟩⟩
theorem ne_blk {a b n c n' c' : Nat} (h : a ≠ b) : (Value.slice (some ⟨a, 0, none⟩) n c).ownBlock ≠ (Value.slice (some ⟨b, 0, none⟩) n' c').ownBlock := by
  simp [Value.ownBlock]
  exact h
theorem str_ones (l : List ByteArray) : ∀ u ∈ l.map Value.string, u.oneCell' = true := by
  intro u hu
  obtain ⟨s, _, rfl⟩ := List.mem_map.1 hu
  rfl

theorem fresh_ne {E : TypeId} {w : World} {base : Nat} {v : Value} {hs : List Value} (h : OwnV E w base v hs) : v.ownBlock ≠ (Value.slice (some ⟨w.heap.size, 0, none⟩) 0 0).ownBlock := by
  intro e
  exact Nat.lt_irrefl _ (h.lt _ e).2
theorem at_ne {v : Value} {a b s : Nat} (hat : v.ownBlock = (Value.slice (some ⟨a, 0, none⟩) 0 0).ownBlock ∨ v.ownBlock = some s) (h1 : a ≠ b) (h2 : s ≠ b) : v.ownBlock ≠ (Value.slice (some ⟨b, 0, none⟩) 0 0).ownBlock := by
  intro e
  rcases hat with h | h
  · rw [h] at e
    exact h1 (by simpa [Value.ownBlock] using e)
  · rw [h] at e
    exact h2 (by simpa [Value.ownBlock] using e)
theorem cp_fin {w6 : World} {x base gl gw n cl cw c5 c6 : Nat} {A5 A6 : Option Addr} {m : RM} (E6 : w6.heap[x]? = some (.cells (rdC gl gw n cl cw m) 61 (0, 0)))
    (P6 : OwnV 9 w6 base (.slice A5 n c5) ([] ++ m.last.map Value.string)) (O6 : OwnV 9 w6 base (.slice A6 n c6) ([] ++ m.wait.map Value.string))
    (AP : ∀ y, (Value.slice A6 n c6).ownBlock = some y → (Value.slice A5 n c5).ownBlock ≠ some y) (xb : x < base) (hn : 0 < n) :
    ∃ gl2 gw2, A5 = some ⟨gl2, 0, none⟩ ∧ A6 = some ⟨gw2, 0, none⟩ ∧ RefD ((w6.setCell ⟨x, 0, none⟩ (.slice A5 n c5)).setCell ⟨x, 1, none⟩ (.slice A6 n c6)) x gl2 gw2 n c5 c6 m ∧ base ≤ gl2 ∧ base ≤ gw2 := by
  have ho : Only (fun y => y = x) w6 ((w6.setCell ⟨x, 0, none⟩ (.slice A5 n c5)).setCell ⟨x, 1, none⟩ (.slice A6 n c6)) := ((Only.refl _ _).setCell (S := fun y => y = x) rfl _).setCell rfl _
  have p : OwnV 9 _ base (.slice A5 n c5) (m.last.map Value.string) := OwnV.only (w' := (w6.setCell ⟨x, 0, none⟩ (.slice A5 n c5)).setCell ⟨x, 1, none⟩ (.slice A6 n c6)) P6 ho (fun y hy e => by have := (P6.lt y hy).1; omega)
  have q : OwnV 9 _ base (.slice A6 n c6) (m.wait.map Value.string) := OwnV.only (w' := (w6.setCell ⟨x, 0, none⟩ (.slice A5 n c5)).setCell ⟨x, 1, none⟩ (.slice A6 n c6)) O6 ho (fun y hy e => by have := (O6.lt y hy).1; omega)
  obtain ⟨gl2, rfl, r1, hb1⟩ := p.rowS hn
  obtain ⟨gw2, rfl, r2, hb2⟩ := q.rowS hn
  refine ⟨gl2, gw2, rfl, rfl, ⟨?_, r1, r2, by omega, by omega, fun e => AP gl2 (by rw [e]; rfl) rfl⟩, hb1, hb2⟩
  have h0 := heap_setCell_same w6 x 0 _ _ (.slice (some ⟨gl2, 0, none⟩) n c5) E6
  rw [heap_setCell_same _ x 1 _ _ (.slice (some ⟨gw2, 0, none⟩) n c6) h0]
  rfl

set_option maxRecDepth 100000 in
set_option maxHeartbeats 2000000 in
theorem rcopy_any (w : World) (g gl gw n cl cw : Nat) (m : RM) (h : RefD w g gl gw n cl cw m) (ok : m.Ok n) :
    Calls Try.prog 28 #[.pointer (some ⟨g, 0, none⟩)] w fun e w' => ∃ g2 gl2 gw2 cl2 cw2, e = .returned (.pointer (some ⟨g2, 0, none⟩)) ∧ RefD w' g2 gl2 gw2 n cl2 cw2 m ∧ w.heap.size ≤ g2 ∧ w.heap.size ≤ gl2 ∧ w.heap.size ≤ gw2 ∧ Below w.heap.size w w' := by
  have LD := Lib.hid h.load
  have HR := Lib.hid h
  have OK := Lib.hid ok
  have n2 := ok.n2
  have n1 := ok.n1
  have hgl : g < w.heap.size := (Array.getElem?_eq_some_iff.1 h.blk).1
  clear h ok
  go_enter Try.func28, Try.ntmps28
  go_upto_region 2 with (first
    | (refine wpList_load_rowG rfl 61 (.tmp 5) rfl g rfl _ LD.out ?_)
    | (refine wpList_store_row rfl 61 (.tmp 3) (.tmp 6) rfl w.heap.size (rdC gl gw n cl cw m) rfl rfl 61 _ (heap_alloc_new w _) infoDisk rfl (rdC_ones _ _ _ _ _ _) ?_))
  generalize hw2 : World.setRow _ _ _ = w2
  have hbw : Below w.heap.size w w2 := by rw [← hw2]; exact below_setRow ((Below.refl _ _).alloc (Nat.le_refl _) _) (Nat.le_refl _) _
  have hx2 : w2.heap[w.heap.size]? = some (.cells (rdC gl gw n cl cw m) 61 (0, 0)) := by rw [← hw2]; exact setRow_heap _ _ _ _ 61 _ (heap_alloc_new w _)
  have hd2 : RefD w2 g gl gw n cl cw m := HR.out.only (Only.of_below (S := fun _ => False) hbw (Nat.le_refl _)) (fun _ _ h => h)
  obtain ⟨x, hx⟩ : ∃ x, w.heap.size = x := ⟨_, rfl⟩
  rw [hx] at hx2 hgl ⊢
  have xlt : x < w2.heap.size := (Array.getElem?_eq_some_iff.1 hx2).1
  have glt : g < w2.heap.size := by omega
  have ngx : g ≠ x := by omega
  have nxg : x ≠ g := fun e => ngx e.symm
  have k0 : w2.cell? ⟨g, 0, none⟩ = some (.slice (some ⟨gl, 0, none⟩) n cl) := hd2.cell 0
  have k1 : w2.cell? ⟨g, 1, none⟩ = some (.slice (some ⟨gw, 0, none⟩) n cw) := hd2.cell 1
  have D2 := Lib.hid hd2
  have X2 := Lib.hid hx2
  have BW := Lib.hid hbw
  have HX := Lib.hid hx
  have NL : Hid (n = (m.last.map Value.string).length) := Lib.hid (by rw [List.length_map]; exact OK.out.nl.symm)
  have NW : Hid (n = (m.wait.map Value.string).length) := Lib.hid (by rw [List.length_map]; exact OK.out.nw.symm)
  clear hw2 hbw hx2 hd2 hx
  go_region_law (first
    | (refine step_appV (by rfl) (.tmp 13) (.tmp 17) 59 9 _ 16 rfl Try.underlying59 infoStr rfl w2.heap.size _ [] (m.wait.map Value.string) rfl ?_ _ _ _ rfl NW.out ?_ (str_ones _) (by simp; omega) ?_ ?_
       · first | exact OwnV.emptyE rfl S5.out | exact ((OwnV.emptyE (W := w2.alloc (.cells #[] 9)) (b := w2.heap.size + 1) (by simp) (by omega)).drew).kept HG5.out (.inr (ne_blk (a := w2.heap.size + 1) (b := w2.heap.size) (by omega))) | exact (((OwnV.emptyE (W := w2) rfl (Nat.le_refl _)).alloc _).drew).kept HG5.out (.inr (ne_blk (a := w2.heap.size) (b := w2.heap.size + 1) (by omega)))
       · first | exact R5.out.news | exact (R5.out.alloc _).news
       · have := S5.out
         (try simp)
         omega
       intro A6 n6 c6 w6 hown6 hg6 hb6 hat6
       have hn6 : n = n6 := by have := hown6.len; have := NW.out; simp at *; omega
       subst hn6
       have e6 : w6.heap[x]? = some (.cells (rdC gl gw n cl cw m) 61 (0, 0)) := (hb6.block x xlt).trans (by first | exact E5.out | exact (heap_old1 (by have := S5.out; omega)).trans E5.out)
       have q0 : w6.cell? ⟨x, 0, none⟩ = some (.slice (some ⟨gl, 0, none⟩) n cl) := cell_of_row w6 x 0 _ _ (0, 0) e6
       have q1 : w6.cell? ⟨x, 1, none⟩ = some (.slice (some ⟨gw, 0, none⟩) n cw) := cell_of_row w6 x 1 _ _ (0, 0) e6
       have fz0 := frozen_of_row w6 x 0 _ _ e6
       have fz1 := frozen_of_row w6 x 1 _ _ e6
       have O6 := Lib.hid hown6
       have P6 : Hid (OwnV 9 w6 w2.heap.size (.slice A5 n c5) ([] ++ m.last.map Value.string)) := Lib.hid (by first | exact (O5.out.alloc _).kept hg6 (.inr (fresh_ne O5.out)) | exact O5.out.kept hg6 (.inr (at_ne HAT5.out (by first | omega | (simp; done) | (simp; omega)) (by first | omega | (simp; done) | (simp; omega)))))
       have AP6 : Hid (∀ y, (Value.slice A6 n c6).ownBlock = some y → (Value.slice A5 n c5).ownBlock ≠ some y) := Lib.hid (by first | exact own_fresh (fun y e1 e2 => fresh_ne O5.out (e2.trans e1.symm)) (O5.out.alloc _) (by first | exact Nat.le_refl _ | (simp; try omega)) hat6 | exact own_fresh (fun y e1 e2 => (at_ne HAT5.out (by first | omega | (simp; done) | (simp; omega)) (by first | omega | (simp; done) | (simp; omega))) (e2.trans e1.symm)) O5.out (by first | exact Nat.le_refl _ | (simp; try omega)) hat6)
       have BX : Below x w w2 := HX.out ▸ BW.out
       have B6 : Hid (Below x w w6) := Lib.hid (by first | exact (BX.trans (B5.out.mono (Nat.le_of_lt xlt))).trans (hb6.mono (Nat.le_of_lt xlt)) | exact ((BX.trans (B5.out.mono (Nat.le_of_lt xlt))).alloc (by have := S5.out; omega) _).trans (hb6.mono (Nat.le_of_lt xlt)))
       have E6 := Lib.hid e6
       clear hown6 hg6 hb6 hat6 e6 BX)
    | (refine step_appV (by rfl) (.tmp 7) (.tmp 11) 59 9 _ 16 rfl Try.underlying59 infoStr rfl w2.heap.size _ [] (m.last.map Value.string) rfl ?_ _ _ _ rfl NL.out ?_ (str_ones _) (by simp; omega) ?_ ?_
       · first | exact OwnV.emptyE rfl (Nat.le_refl _) | exact (OwnV.emptyE (W := w2) rfl (Nat.le_refl _)).alloc _ | exact OwnV.emptyE (W := w2.alloc (.cells #[] 9)) (by simp) (by simp)
       · first | exact (D2.out.rl.alloc _).news | exact ((D2.out.rl.alloc _).alloc _).news
       · (try simp)
         try omega
       intro A5 n5 c5 w5 hown5 hg5 hb5 hat5
       have hn5 : n = n5 := by have := hown5.len; have := NL.out; simp at *; omega
       subst hn5
       have e5 : w5.heap[x]? = some (.cells (rdC gl gw n cl cw m) 61 (0, 0)) := (hb5.block x xlt).trans (by first | exact (heap_old1 (W := w2) xlt).trans X2.out | exact (heap_old2 (W := w2) xlt).trans X2.out)
       have b5 : Below w2.heap.size w2 w5 := by first | exact ((Below.refl w2.heap.size w2).drew.alloc (Nat.le_refl _) _).trans hb5 | exact (((Below.refl w2.heap.size w2).drew.alloc (Nat.le_refl _) _).alloc (by simp) _).trans hb5
       have d5 : RefD w5 g gl gw n cl cw m := D2.out.only (Only.of_below (S := fun _ => False) b5 (Nat.le_refl _)) (fun _ _ h => h)
       have p1 : w5.cell? ⟨g, 1, none⟩ = some (.slice (some ⟨gw, 0, none⟩) n cw) := d5.cell 1
       have h5g : g < w5.heap.size := by have := b5.size; omega
       have h5x : x < w5.heap.size := by have := b5.size; omega
       have R5 := Lib.hid d5.rw
       have O5 := Lib.hid hown5
       have E5 := Lib.hid e5
       have HG5 := Lib.hid hg5
       have HAT5 := Lib.hid hat5
       have B5 := Lib.hid b5
       have S5 := Lib.hid b5.size
       clear hown5 hg5 hb5 hat5 e5 b5 d5))
  all_goals
    have FIN := Lib.hid (cp_fin E6.out P6.out O6.out AP6.out xlt (by omega))
    have FB := Lib.hid ((B6.out.setCell (p := ⟨x, 0, none⟩) (Nat.le_refl x) (.slice A5 n c5)).setCell (p := ⟨x, 1, none⟩) (Nat.le_refl x) (.slice A6 n c6))
    clear O5 E5 HG5 HAT5 B5 S5 R5 O6 P6 AP6 E6 B6
    go_wp2_with fail
    go_ret
    obtain ⟨gl2, gw2, rfl, rfl, hr, h1, h2⟩ := FIN.out
    rw [HX.out]
    exact ⟨x, gl2, gw2, c5, c6, rfl, hr, Nat.le_refl _, by omega, by omega, FB.out⟩
end Go.Proofs.Ytpnmcdpekfibjaa
