/-
  Own work. The contract of the document's answer's ID.
-/
import Derived.Test.YtbnlkagiliimkaaDoorIi
import Derived.Test.YtbnlkagiliimkaaDoorRu
import Derived.Laws.ResultCell
namespace Go.Proofs.YtbnlkagiliimkaaDoor
open Go.RowKit
set_option linter.unusedVariables false
set_option linter.unusedSimpArgs false

theorem results_cell_row2 {P : Program} {fn : Func} {p u : Tmp} {ty : TypeId} (h : fn.results = #[.cell p ty, .tmp u]) (tmps : Array Value) (w : World) (g : Nat) (t : TypeId) (cs : Array Value) (fr : Nat × Nat) (d : TypeDesc)
    (hp : tmps.getD p undef = .pointer (some ⟨g, 0, none⟩)) (hg : w.heap[g]? = some (.cells cs t fr))
    (hu : P.underlying ty = some d) (hd : (match d with | .struct _ | .array _ _ => true | _ => false) = true) (hi : (P.info? ty).map (·.size) = some cs.size) (v : Value) (hv : tmps.getD u undef = v) :
    (results fn tmps).run P w = .ok (.tuple #[.agg cs, v]) w := by
  have hp' : tmps[p]?.getD undef = .pointer (some ⟨g, 0, none⟩) := by simpa using hp
  have hv' : tmps[u]?.getD undef = v := by simpa using hv
  simp [results, h, hp', hv', asAddr, run_loadVar_row w g t ty cs fr d hg hu hd hi]
/-- The first bytes of a row of the call's own, loaded as an array. -/
theorem OwnB.load_id {w : World} {base g c : Nat} {l : List UInt8} (h : OwnB w base (.slice (some ⟨g, 0, none⟩) 32 c) l) : (loadVar 29 ⟨g, 0, none⟩).run Tryd.prog w = .ok (.agg (cellsB l).toArray) w := by
  have hl := h.len
  rcases h.form with ⟨e, _⟩ | ⟨g', c', cur, e, hb, hlt, hg, hn, hc, hs, ht⟩
  · cases e
  · simp only [Value.slice.injEq, Option.some.injEq, Addr.mk.injEq, and_true] at e
    obtain ⟨rfl, -, rfl⟩ := e
    have := run_loadVar_part (P := Tryd.prog) w g 0 5 29 cur.toList (cellsB l) (0, 0) _ (by simpa using hg) Tryd.underlying29 rfl (by rw [cellsB_length, ← hl]; exact infoID) (fun j v hv => by
      rw [Nat.zero_add]
      have h1 : (cur.toList.take l.length)[j]? = some v := by rw [ht]; exact hv
      rw [List.getElem?_take] at h1
      split at h1
      · exact h1
      · cases h1)
    exact this
theorem builtID : Tryd.prog.built 29 [] = some (cellsB (zer 32)).toArray := by kernel_rfl
theorem idE_bad (l : List UInt8) (h : ¬ idE l = 0) : idL l = zer 32 := by unfold idL; rw [if_neg h]; rfl

set_option maxRecDepth 100000 in
set_option maxHeartbeats 1000000 in
theorem rid_any (l : List UInt8) (w : World) (hl : l.length ≤ 1073741824) :
    Calls Tryd.prog 14 #[.string ⟨l.toArray⟩] w (RetIDE w (idL l) (idE l)) := by
  have CU := runhex_any l (w.alloc (.cells (cellsB (zer 32)).toArray 29)) hl
  have hIV := id_iv (zer 32) (by simp [zer])
  have hHZ := id_hz (zer 32) (by simp [zer])
  have IV := Lib.hid hIV
  have IZ := Lib.hid hHZ
  clear hIV hHZ
  by_cases hbad : unhE l = 0
  · by_cases hlen : (unhL l).length = 32
    · have hE : idE l = 0 := by unfold idE; rw [if_pos hbad, if_pos hlen]
      have hL : idL l = unhL l := by unfold idL; rw [if_pos hE]
      have hR : unhR l = unhL l := by unfold unhR; rw [if_pos hbad]
      rw [hE, hL]
      rw [hR, hbad] at CU
      obtain ⟨L, hLL⟩ : ∃ L, unhL l = L := ⟨_, rfl⟩
      rw [hLL] at CU hlen ⊢
      have HC := Lib.hid CU
      have IL := Lib.hid (id_iv L hlen)
      have LZ := Lib.hid (id_hz L hlen)
      have HLN := Lib.hid hlen
      clear CU hbad hlen hE hL hR hLL
      go_enter Tryd.func14, Tryd.ntmps14
      go_upto_region 6 with (first
        | (go_at_call 12; refine HC.out.mono ?_; rintro e w1 ⟨A1, n1, c1, rfl, hown1, hb1⟩
           have hn1 := hown1.len
           rw [HLN.out] at hn1
           subst hn1
           obtain ⟨g, rfl, hg, hglt, _⟩ := hown1.head (by omega)
           have LD := Lib.hid hown1.load_id
           have Z1 := Lib.hid ((Bw.new w (zer 32) 29).below hb1 (by simp))
           have B1 := Lib.hid (((Below.refl w.heap.size w).alloc (Nat.le_refl _) _).trans (hb1.mono (by simp)))
           have hc1 := hown1.caps.1
           clear hown1 hb1))
      go_wp2_with (first
        | (refine wpList_arrayAt rfl 29 _ 32 (.tmp 19) rfl Tryd.underlying29 _ _ _ rfl (Nat.le_refl _) ?_)
        | (refine wpList_load_rowG rfl 29 (.tmp 20) rfl g rfl _ LD.out ?_)
        | (refine wpList_store_row rfl 29 (.tmp 2) (.tmp 21) rfl w.heap.size (cellsB L).toArray rfl rfl 29 _ Z1.out IL.out LZ.out (cellsB_ones _) ?_))
      refine bodyPost_ret (v := .tuple #[.agg (cellsB L).toArray, .int .i64 0]) ?_ (by rfl) ?_
      · exact results_cell_row2 (p := 2) (u := 3) (ty := 29) rfl _ _ w.heap.size 29 (cellsB L).toArray _ _ rfl (setRow_heap _ _ _ _ 29 _ Z1.out) Tryd.underlying29 rfl IL.out _ rfl
      · exact ⟨rfl, below_setRow B1.out (Nat.le_refl _) _⟩
    · have hE : idE l = 9 := by unfold idE; rw [if_pos hbad, if_neg hlen]
      have hL := idE_bad l (by rw [hE]; decide)
      have hR : unhR l = unhL l := by unfold unhR; rw [if_pos hbad]
      rw [hE, hL]
      rw [hR, hbad] at CU
      obtain ⟨L, hLL⟩ : ∃ L, unhL l = L := ⟨_, rfl⟩
      rw [hLL] at CU hlen
      have HC := Lib.hid CU
      have HLN := Lib.hid hlen
      clear CU hbad hlen hE hL hR hLL
      go_enter Tryd.func14, Tryd.ntmps14
      go_wp2_with (first
        | (go_at_call 12; refine HC.out.mono ?_; rintro e w1 ⟨A1, n1, c1, rfl, hown1, hb1⟩
           have hn1 := hown1.len
           have hn32 : ¬ (n1 = 32) := by have := HLN.out; omega
           have hn33 : ¬ ((n1 : Int) = 32) := by omega
           have Z1 := Lib.hid ((Bw.new w (zer 32) 29).below hb1 (by simp))
           have B1 := Lib.hid (((Below.refl w.heap.size w).alloc (Nat.le_refl _) _).trans (hb1.mono (by simp)))
           have hc1 := hown1.caps.1
           clear hown1 hb1 hn1)
        | (refine wpList_buildG rfl 29 rfl (cellsB (zer 32)).toArray builtID ?_)
        | (refine wpList_store_row rfl 29 (.tmp 2) (.tmp 18) rfl w.heap.size (cellsB (zer 32)).toArray rfl rfl 29 _ Z1.out IV.out rfl (cellsB_ones _) ?_))
      refine bodyPost_ret (v := .tuple #[.agg (cellsB (zer 32)).toArray, .int .i64 9]) ?_ (by rfl) ?_
      · exact results_cell_row2 (p := 2) (u := 3) (ty := 29) rfl _ _ w.heap.size 29 (cellsB (zer 32)).toArray _ _ rfl (setRow_heap _ _ _ _ 29 _ Z1.out) Tryd.underlying29 rfl IV.out _ rfl
      · exact ⟨rfl, below_setRow B1.out (Nat.le_refl _) _⟩
  · have hu : unhE l = 4 := by unfold unhE at hbad ⊢; split at hbad; · exact absurd rfl hbad
                               · rename_i h; rw [if_neg h]
    have hE : idE l = 4 := by unfold idE; rw [if_neg hbad]
    have hL := idE_bad l (by rw [hE]; decide)
    rw [hE, hL]
    rw [hu] at CU
    have HC := Lib.hid CU
    clear CU hbad hE hL hu
    go_enter Tryd.func14, Tryd.ntmps14
    go_wp2_with (first
      | (go_at_call 12; refine HC.out.mono ?_; rintro e w1 ⟨A1, n1, c1, rfl, hown1, hb1⟩
         have Z1 := Lib.hid ((Bw.new w (zer 32) 29).below hb1 (by simp))
         have B1 := Lib.hid (((Below.refl w.heap.size w).alloc (Nat.le_refl _) _).trans (hb1.mono (by simp)))
         clear hown1 hb1)
      | (refine wpList_buildG rfl 29 rfl (cellsB (zer 32)).toArray builtID ?_)
      | (refine wpList_store_row rfl 29 (.tmp 2) (.tmp 13) rfl w.heap.size (cellsB (zer 32)).toArray rfl rfl 29 _ Z1.out IV.out rfl (cellsB_ones _) ?_))
    refine bodyPost_ret (v := .tuple #[.agg (cellsB (zer 32)).toArray, .int .i64 4]) ?_ (by rfl) ?_
    · exact results_cell_row2 (p := 2) (u := 3) (ty := 29) rfl _ _ w.heap.size 29 (cellsB (zer 32)).toArray _ _ rfl (setRow_heap _ _ _ _ 29 _ Z1.out) Tryd.underlying29 rfl IV.out _ rfl
    · exact ⟨rfl, below_setRow B1.out (Nat.le_refl _) _⟩
end Go.Proofs.YtbnlkagiliimkaaDoor
