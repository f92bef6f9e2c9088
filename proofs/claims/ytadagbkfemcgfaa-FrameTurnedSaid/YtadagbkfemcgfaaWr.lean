/-
  Own work. The contract of sha's Write.
-/
import Derived.Test.YtadagbkfemcgfaaLd
import Derived.Deep.DeepCutAuto
namespace Go.Proofs.Ytadagbkfemcgfaa
open Go.RowKit
set_option linter.unusedVariables false
set_option linter.unusedSimpArgs false

/-- copy, as one step of a region: one row alone turns. -/
theorem step_copy_row' {P : Program} {ops : Array Oper} {o : Oper} {a : Act} {w : World} {K : Act → World → Prop} {Q : Exit → Act → World → Prop} {E : Prop} (hgd : o.guard = none) (d s : Operand) (dT sT : TypeId)
    (ho : o.op = .call { callee := .builtin .copy, args := #[d, s], argTypes := #[dT, sT] }) (elem : TypeId) (hu : P.underlying dT = some (.slice elem)) (hsz : (P.info? elem).map (·.size) = some 1)
    (dp sp : Option Addr) (dLen dCap sLen sCap : Nat) (hd : a.eval d = .slice dp dLen dCap) (hs : a.eval s = .slice sp sLen sCap)
    (g off : Nat) (cur : List Value) (t : TypeId) (hg : w.heap[g]? = some (.cells cur.toArray t (0, 0))) (cs : List Value) (m : Nat) (hm : cs.length = m) (hn : m = Nat.min sLen dLen)
    (hpos : 0 < cs.length → dp = some ⟨g, off, none⟩ ∧ ∃ ad, sp = some ad ∧ ∀ j v, cs[j]? = some v → w.cell? (ad.add j) = some v)
    (hfit : off + m ≤ cur.length) (h1 : ∀ v ∈ cs, v.oneCell' = true)
    (h : ∀ w', RowKit.Hid (w'.heap[g]? = some (.cells (splice cur off cs).toArray t (0, 0))) → w.grownBy w' (some g) → K (a.put o.dst (.int .i64 (m : Int))) w') :
    if Region.wanted o (yielded ops a.tmps) = true then Oper.wp P o a w K Q else E := by
  subst hm
  have hw : Region.wanted o (yielded ops a.tmps) = true := by simp [Region.wanted, hgd]
  rw [if_pos hw]
  by_cases h0 : cs.length = 0
  · obtain rfl : cs = [] := List.eq_nil_of_length_eq_zero h0
    have hrun := run_copy_none (P := P) w dT sT o.type elem dp sp dLen dCap sLen sCap hu hsz (by simpa using hn.symm)
    unfold Oper.wp
    simp [execOp, ho, resolve, invoke, builtin, hd, hs, hrun, Result.andThen]
    exact h w (show _ = _ by simpa [splice] using hg) (World.grownBy.refl _ _)
  · obtain ⟨rfl, ad, rfl, hsrc⟩ := hpos (by omega)
    have hrun := run_copy_row (P := P) w dT sT o.type elem g off dLen dCap ad sLen sCap cur.toArray t cs hu hsz hg hn hsrc (by simpa using hfit) h1
    unfold Oper.wp
    simp [execOp, ho, resolve, invoke, builtin, hd, hs, hrun, Result.andThen]
    exact h _ (show _ = _ by simpa [splice] using setRow_heap w g _ _ t _ hg) ⟨rfl, rfl, rfl, by simp [World.setRow], fun k _ hk => setRow_other w g k _ (fun e => hk (by rw [e]))⟩

theorem step_load_at {P : Program} {ops : Array Oper} {o : Oper} {a : Act} {w : World} {K : Act → World → Prop} {Q : Exit → Act → World → Prop} {E : Prop} (hgd : o.guard = none) (ty : TypeId) (x : Operand) (ho : o.op = .load ty x) (ad : Addr) (hx : a.eval x = .pointer (some ad)) (v : Value)
    (hl : (loadVar ty ad).run P w = .ok v w) (h : K (a.put o.dst v) w) : if Region.wanted o (yielded ops a.tmps) = true then Oper.wp P o a w K Q else E := by
  rw [if_pos (by simp [Region.wanted, hgd])]
  unfold Oper.wp execOp
  simp only [ho, hx, Instr.loadAt, Instr.sureAddr, Sem.run_bind, Sem.run_pure, Result.andThen_ok, hl]
  exact h
theorem step_store_part {P : Program} {ops : Array Oper} {o : Oper} {a : Act} {w : World} {K : Act → World → Prop} {Q : Exit → Act → World → Prop} {E : Prop} (hgd : o.guard = none) (ty : TypeId) (x y : Operand) (ho : o.op = .store ty x y)
    (g off : Nat) (cells : Array Value) (hx : a.eval x = .pointer (some ⟨g, off, none⟩)) (hy : a.eval y = .agg cells)
    (t : TypeId) (cur : Array Value) (hg : w.heap[g]? = some (.cells cur t (0, 0))) (hi : (P.info? ty).map (·.size) = some cells.size) (hfit : off + cells.size ≤ cur.size) (h1 : ∀ v ∈ cells.toList, v.oneCell' = true)
    (h : K (a.put o.dst undef) (w.setRow g (cur.toList.take off ++ cells.toList ++ cur.toList.drop (off + cells.size)).toArray)) : if Region.wanted o (yielded ops a.tmps) = true then Oper.wp P o a w K Q else E := by
  rw [if_pos (by simp [Region.wanted, hgd])]
  exact wp_store_part ty x y ho g off cells hx hy t cur hg hi hfit h1 h

theorem HashD.piece {w5 : World} {g N x m : Nat} {E b e Y : List UInt8} {st : List Nat} (hN : E.length = N) (hx : N % 64 = x) (hst : mixN E (E.length / 64) = st) (hY : splice b x e = Y) (hb : b.length = 64)
    (ht : b.take (E.length % 64) = E.drop (64 * (E.length / 64))) (hm : e.length = m) (hlt : x + m < 64) (row : w5.heap[g]? = some (.cells (hashV st Y (N + m)).toArray 156 (0, 0))) : HashD w5 g (E ++ e) := by
  subst hN hx hst hY hm
  obtain ⟨h1, h2, h3, h4⟩ := piece_in E b e hb ht hlt
  refine ⟨splice b (E.length % 64) e, ⟨?_, mixN_len _ _, mixN_small _ _, ?_⟩, h4⟩
  · rw [h3, row, List.length_append]
  · rw [splice_len _ _ _ (by omega)]; exact hb
theorem HashD.pieceEnd {w5 : World} {g N x m : Nat} {E b e Y : List UInt8} {st : List Nat} (hN : E.length = N) (hx : N % 64 = x) (hst : mixN E (E.length / 64) = st) (hY : splice b x e = Y) (hb : b.length = 64)
    (ht : b.take (E.length % 64) = E.drop (64 * (E.length / 64))) (hm : e.length = m) (hlt : x + m = 64) (row : w5.heap[g]? = some (.cells (hashV (comp st Y) Y (N + m)).toArray 156 (0, 0))) : HashD w5 g (E ++ e) := by
  subst hN hx hst hY hm
  obtain ⟨h1, h2, h3, h4⟩ := piece_end E b e hb ht hlt
  refine ⟨splice b (E.length % 64) e, ⟨?_, mixN_len _ _, mixN_small _ _, ?_⟩, h4⟩
  · rw [h3, row, List.length_append]
  · rw [splice_len _ _ _ (by omega)]; exact hb
theorem load_state {w : World} {g n : Nat} {s : List Nat} {b : List UInt8} (hs : s.length = 8) (h : w.heap[g]? = some (.cells (hashV s b n).toArray 156 (0, 0))) : (loadVar 151 ⟨g, 0, none⟩).run Try.prog w = .ok (.agg (wordsW s)) w := by
  refine run_loadVar_part w g 0 _ 151 (hashV s b n) (s.map fun (x : Nat) => Value.int .u32 (x : Int)) (0, 0) _ h Try.underlying151 rfl (by rw [List.length_map, hs]; exact infoState) ?_
  intro j v hv
  have hj := (List.getElem?_eq_some_iff.1 hv).1
  rw [Nat.zero_add]
  unfold hashV
  rw [List.getElem?_append_left hj]
  exact hv
theorem load_block {w : World} {g n : Nat} {s : List Nat} {b : List UInt8} (hs : s.length = 8) (hb : b.length = 64) (h : w.heap[g]? = some (.cells (hashV s b n).toArray 156 (0, 0))) : (loadVar 154 ⟨g, 8, none⟩).run Try.prog w = .ok (.agg (cellsB b).toArray) w := by
  refine run_loadVar_part w g 8 _ 154 (hashV s b n) (cellsB b) (0, 0) _ h Try.underlying154 rfl (by rw [cellsB_length, hb]; exact infoBlock) ?_
  intro j v hv
  obtain ⟨x, hx, rfl⟩ := cellsB_at hv
  exact hashV_at s b n j x hs hx
theorem grown_setRow (w : World) (g : Nat) (cs : Array Value) : w.grownBy (w.setRow g cs) (some g) := ⟨rfl, rfl, rfl, by simp [World.setRow], fun k _ hk => setRow_other w g k cs (fun e => hk (by rw [e]))⟩
theorem grown_setC (w : World) (g k : Nat) (u : Value) : w.grownBy (w.setCell ⟨g, k, none⟩ u) (some g) := ⟨rfl, rfl, rfl, by simp [World.setCell], fun i _ hne => Below.heap_setCell w ⟨g, k, none⟩ u i (by rintro rfl; exact hne rfl)⟩
theorem grown_below {w w' : World} (h : Below w.heap.size w w') (row : Option Nat) : w.grownBy w' row := ⟨h.os, h.tape, h.output, h.size, fun i hi _ => h.block i hi⟩
theorem grown_drew (w : World) (row : Option Nat) : w.grownBy w.drew row := ⟨rfl, rfl, rfl, Nat.le_refl _, fun _ _ _ => rfl⟩
theorem grown_drewN (w : World) (n : Nat) (row : Option Nat) : w.grownBy (w.drewN n) row := ⟨rfl, rfl, rfl, Nat.le_refl _, fun _ _ _ => rfl⟩

def RetWr (w : World) (g : Nat) (D : List UInt8) (e : Ending) (w' : World) : Prop := e = .returned (.tuple #[]) ∧ HashD w' g D ∧ w.grownBy w' (some g)

set_option maxRecDepth 100000 in
set_option maxHeartbeats 400000 in
theorem write_any (g n c : Nat) (D l : List UInt8) (A : Option Addr) (w : World) (h : HashD w g D) (hs : Src w g A n l) (hc : n ≤ c) (hlen : D.length + l.length ≤ 4294967296) :
    Calls Try.prog 87 #[.pointer (some ⟨g, 0, none⟩), .slice A n c] w (RetWr w g (D ++ l)) := by
  have hnl := hs.1
  obtain ⟨b, h1, h2⟩ := h
  have CN := isNone_live g D.length _ b w h1 (by omega) (HashD.live (w := w) (g := g))
  have H1 : Hid (HashD w g D) := Lib.hid ⟨b, h1, h2⟩
  have HS := Lib.hid hs
  have HN := Lib.hid hnl
  clear h1 h2 hs hnl
  go_enter Try.func87, Try.ntmps87
  go_wp2_with (go_at_call 103; refine CN.mono ?_; rintro e w1 ⟨rfl, rfl⟩)
  go_loopw [1] (fun v wr => ∃ (k n' c' : Nat) (A' : Option Addr), k ≤ n ∧ n' = n - k ∧ n' ≤ c' ∧ v = .slice A' n' c' ∧ Src wr g A' n' (l.drop k) ∧ HashD wr g (D ++ l.take k) ∧ w.grownBy wr (some g)) (fun v _ => match v with | .slice _ n' _ => n' | _ => 0)
  case atStart => exact ⟨0, n, c, A, by omega, by omega, hc, rfl, HS.out, by simpa using H1.out, World.grownBy.refl _ _⟩
  case round =>
    obtain ⟨k, n', c', A', hk, hn', hc', rfl, hS, hD, hG⟩ := hrel
    have HNK := Lib.hid hn'
    by_cases hpos : 0 < n'
    · obtain ⟨b, hW, ht⟩ := hD
      have hl1 : (D ++ l.take k).length = D.length + k := by rw [List.length_append, List.length_take]; have := HN.out; omega
      have hlE : (D ++ l.take k).length + n' ≤ 4294967296 := by rw [hl1]; have := HN.out; omega
      have hEn : ∀ m, m ≤ n' → D ++ l.take (k + m) = (D ++ l.take k) ++ (l.drop k).take m := by
        intro m hm
        rw [List.append_assoc, List.take_add]
      generalize D ++ l.take k = E at hW ht hl1 hlE hEn
      have c72 := cell_of_row wr g 72 _ 156 (0, 0) hW.1
      rw [List.getElem?_toArray, hashV_size _ _ _ hW.2.1 hW.2.2.2] at c72
      have f72 := frozen_of_row wr g 72 _ 156 hW.1
      have HW := Lib.hid hW
      have HT := Lib.hid ht
      have HE := Lib.hid hEn
      have HSr := Lib.hid hS
      have HG := Lib.hid hG
      obtain ⟨N, hN⟩ : ∃ N, E.length = N := ⟨_, rfl⟩
      obtain ⟨x, hx⟩ : ∃ x, N % 64 = x := ⟨_, rfl⟩
      have hxI : ((N : Int) % 64) = (x : Int) := by omega
      have hxT : ((N : Int).tmod 64) = (x : Int) := by rw [Int.tmod_eq_emod_of_nonneg (by omega)]; omega
      have hxl : (x : Int) ≤ 64 := by omega
      have hx64 : x < 64 := by omega
      have hN2 : N ≤ 4294967296 := by rw [← hN]; omega
      rw [hN] at c72 hlE
      have HNN := Lib.hid hN
      have HX := Lib.hid hx
      clear hN hx hW ht hEn hS hG hl1 hn'
      have hne : ¬ (64 = x) := by omega
      obtain ⟨kk, oo, rfl, hkg, hklt, hcell⟩ := HSr.out.2 hpos
      obtain ⟨m, hm⟩ : ∃ m, m = min n' (64 - x) := ⟨_, rfl⟩
      have hm1 : m ≤ n' := by omega
      have hm0 : 0 < m := by omega
      have hmx : x + m ≤ 64 := by omega
      have hldk : (l.drop k).length = n' := HSr.out.1.symm
      have hcsl : (cellsB ((l.drop k).take m)).length = m := by rw [cellsB_length, List.length_take]; omega
      have hcsrc : ∀ j v, (cellsB ((l.drop k).take m))[j]? = some v → wr.cell? ((⟨kk, oo, none⟩ : Addr).add j) = some v := by
        intro j v hv
        obtain ⟨y, hy, rfl⟩ := cellsB_at hv
        rw [Addr.add_lit]
        refine hcell j y ?_
        rw [List.getElem?_take] at hy
        split at hy
        · exact hy
        · cases hy
      have hfit : 8 + x + m ≤ (hashV (mixN E (E.length / 64)) b N).length := by rw [hashV_len _ _ _ HW.out.2.1 HW.out.2.2.2]; omega
      have hmn : m = Nat.min n' (64 - x) := hm
      have hrow : wr.heap[g]? = some (.cells (hashV (mixN E (E.length / 64)) b N).toArray 156 (0, 0)) := by rw [← HNN.out]; exact HW.out.1
      have hsp : splice (hashV (mixN E (E.length / 64)) b N) (8 + x) (cellsB ((l.drop k).take m)) = hashV (mixN E (E.length / 64)) (splice b x ((l.drop k).take m)) N :=
        hashV_splice _ _ _ _ _ HW.out.2.1 HW.out.2.2.2 (by rw [List.length_take]; omega)
      have hbl : (splice b x ((l.drop k).take m)).length = 64 := by rw [splice_len _ _ _ (by rw [HW.out.2.2.2, List.length_take]; omega)]; exact HW.out.2.2.2
      have hNm : N + m ≤ 4294967296 := by omega
      have hsz8 : (Try.prog.info? 5).map (·.size) = some 1 := by kernel_rfl
      obtain ⟨X, hX⟩ : ∃ X, cellsB ((l.drop k).take m) = X := ⟨_, rfl⟩
      have h1c := cellsB_one ((l.drop k).take m)
      rw [hX] at hcsl hcsrc hsp h1c
      obtain ⟨Y, hY⟩ : ∃ Y, splice b x ((l.drop k).take m) = Y := ⟨_, rfl⟩
      rw [hY] at hsp hbl
      obtain ⟨st, hst⟩ : ∃ st, mixN E (E.length / 64) = st := ⟨_, rfl⟩
      rw [hst] at hrow hfit hsp
      have hs8 : st.length = 8 := by rw [← hst]; exact HW.out.2.1
      have HX2 := Lib.hid hX
      have HY := Lib.hid hY
      have HST := Lib.hid hst
      have HCL := Lib.hid hcsl
      have HCS := Lib.hid hcsrc
      have HF := Lib.hid hfit
      have HMN := Lib.hid hmn
      have HROW := Lib.hid hrow
      have HSP := Lib.hid hsp
      have HBL := Lib.hid hbl
      have H1C := Lib.hid h1c
      have HS8 := Lib.hid hs8
      have HLD := Lib.hid hldk
      have HM := Lib.hid hm
      clear hX hY hst hcsl hcsrc hfit hmn hrow hsp hbl h1c hs8 hldk hm hcell
      go_wp2_with fail
      go_region_law (refine step_copy_row' rfl (.tmp 18) (.tmp 19) 24 24 rfl 5 Try.underlying24 hsz8 _ _ _ _ _ _ rfl rfl g (8 + x) (hashV st b N) 156 HROW.out X m HCL.out HMN.out (fun _ => ⟨rfl, _, rfl, HCS.out⟩) HF.out H1C.out ?_; intro w4 HG4 hb4)
      have row4 : w4.heap[g]? = some (.cells (hashV st Y N).toArray 156 (0, 0)) := by rw [← HSP.out]; exact HG4.out
      have c4 := cell_of_row w4 g 72 _ 156 (0, 0) row4
      rw [List.getElem?_toArray, hashV_size _ _ _ HS8.out HBL.out] at c4
      have f4 := frozen_of_row w4 g 72 _ 156 row4
      have row5 : (w4.setCell ⟨g, 72, none⟩ (.int .u64 ((N : Int) + (m : Int)))).heap[g]? = some (.cells (hashV st Y (N + m)).toArray 156 (0, 0)) := by
        rw [heap_setCell_same w4 g 72 _ _ _ row4, ← hashV_setSize st Y N (N + m) HS8.out HBL.out]
        simp
      have G5 : w.grownBy (w4.setCell ⟨g, 72, none⟩ (.int .u64 ((N : Int) + (m : Int)))) (some g) := HG.out.trans (((grown_drew wr (some g)).trans hb4).trans (grown_setC w4 g 72 _))
      have S5 : Src (w4.setCell ⟨g, 72, none⟩ (.int .u64 ((N : Int) + (m : Int)))) g (if c' = m then some ⟨kk, oo, none⟩ else some ⟨kk, oo + m, none⟩) (n' - m) (l.drop (k + m)) := by
        have h0 : Src w4 g (some ⟨kk, oo, none⟩) n' (l.drop k) := Src.grown (w := wr.drew) HSr.out hb4
        have h1 := h0.grown (grown_setC w4 g 72 (.int .u64 ((N : Int) + (m : Int))))
        have h2 := h1.cut (m := m) (A' := if c' = m then some ⟨kk, oo, none⟩ else some ⟨kk, oo + m, none⟩) hm1 (fun hlt => by rw [if_neg (by omega)]; simp [Addr.add_lit])
        rw [List.drop_drop] at h2
        exact h2
      have hel : ((l.drop k).take m).length = m := by rw [List.length_take, HLD.out]; omega
      have HEL := Lib.hid hel
      have R5 := Lib.hid row5
      have GG5 := Lib.hid G5
      have HB4 := Lib.hid hb4
      clear row4 row5 G5 hb4 HG4 hel
      by_cases hcm : c' = m
      all_goals
        first | rw [if_pos hcm] at S5 | rw [if_neg hcm] at S5
        have SS5 := Lib.hid S5
        clear S5
        by_cases hB : x + m = 64
        · have hT : ((N : Int) + (m : Int)).tmod 64 = 0 := by rw [Int.tmod_eq_emod_of_nonneg (by omega)]; omega
          have ss := HW.out.2.2.1
          rw [HST.out] at ss
          have HSM := Lib.hid ss
          clear ss
          go_wp2_with fail
          generalize hw5 : w4.setCell _ _ = w5 at R5 GG5 SS5 ⊢
          clear hw5
          refine wp_region_any (by kernel_rfl) ?_
          change wpAny _ _ _ _ _ _ _ (World.drew _)
          refine wpAny_take (i := 0) (v := ?v0) (by simp only [List.getElem?_toArray, List.getElem?_cons_succ, List.getElem?_cons_zero]; rfl) (by kernel_rfl) (by kernel_rfl) (by kernel_rfl) (by exact fun _ _ _ h => h) (Or.inl ⟨by rfl, ?h0⟩) ?_
          case h0 => (intro w; go_simp; try with_reducible rfl)
          try simp only [Act.put, List.setIfInBounds_toArray, List.set_cons_zero, List.set_cons_succ]
          refine wpAny_take (i := 1) (v := ?v1) (by simp only [List.getElem?_toArray, List.getElem?_cons_succ, List.getElem?_cons_zero]; rfl) (by kernel_rfl) (by kernel_rfl) (by kernel_rfl) (by exact fun _ _ _ h => h) (Or.inl ⟨by rfl, ?h1⟩) ?_
          case h1 => (intro w; go_simp; try with_reducible rfl)
          try simp only [Act.put, List.setIfInBounds_toArray, List.set_cons_zero, List.set_cons_succ]
          refine wpAny_take (i := 2) (v := ?v2) (by simp only [List.getElem?_toArray, List.getElem?_cons_succ, List.getElem?_cons_zero]; rfl) (by kernel_rfl) (by kernel_rfl) (by kernel_rfl) (by exact fun _ _ _ h => h) (Or.inl ⟨by rfl, ?h2⟩) ?_
          case h2 => (intro w; go_simp; try with_reducible rfl)
          try simp only [Act.put, List.setIfInBounds_toArray, List.set_cons_zero, List.set_cons_succ]
          refine wpAny_take (i := 3) (v := ?v3) (by simp only [List.getElem?_toArray, List.getElem?_cons_succ, List.getElem?_cons_zero]; rfl) (by kernel_rfl) (by kernel_rfl) (by kernel_rfl) (by exact fun _ _ _ h => h) (Or.inl ⟨by rfl, ?h3⟩) ?_
          case h3 => (intro w; go_simp; try with_reducible rfl)
          try simp only [Act.put, List.setIfInBounds_toArray, List.set_cons_zero, List.set_cons_succ]
          refine wpAny_take (i := 5) (v := ?v5) (by simp only [List.getElem?_toArray, List.getElem?_cons_succ, List.getElem?_cons_zero]; rfl) (by kernel_rfl) (by kernel_rfl) (by kernel_rfl) (by exact fun _ _ _ h => h) (Or.inl ⟨by rfl, ?h5⟩) ?_
          case h5 => (intro w; go_simp; try with_reducible rfl)
          try simp only [Act.put, List.setIfInBounds_toArray, List.set_cons_zero, List.set_cons_succ]
          refine wpAny_take (i := 6) (v := ?v6) (by simp only [List.getElem?_toArray, List.getElem?_cons_succ, List.getElem?_cons_zero]; rfl) (by kernel_rfl) (by kernel_rfl) (by kernel_rfl) (by exact fun _ _ _ h => h) (Or.inl ⟨by rfl, ?h6⟩) ?_
          case h6 => (intro w; go_simp; try with_reducible rfl)
          try simp only [Act.put, List.setIfInBounds_toArray, List.set_cons_zero, List.set_cons_succ]
          refine wpAny_take (i := 7) (v := ?v7) (by simp only [List.getElem?_toArray, List.getElem?_cons_succ, List.getElem?_cons_zero]; rfl) (by kernel_rfl) (by kernel_rfl) (by kernel_rfl) (by exact fun _ _ _ h => h) (Or.inl ⟨by rfl, ?h7⟩) ?_
          case h7 => (intro w; go_simp; try with_reducible rfl)
          try simp only [Act.put, List.setIfInBounds_toArray, List.set_cons_zero, List.set_cons_succ]
          refine wpAny_ready (rs := [4, 8]) (by kernel_rfl) (by simp) ?_
          refine AllReady.cons (by simp only [List.getElem?_toArray, List.getElem?_cons_succ, List.getElem?_cons_zero]; rfl) (fun K hK => ?_) (AllReady.cons (by simp only [List.getElem?_toArray, List.getElem?_cons_succ, List.getElem?_cons_zero]; rfl) (fun K hK => ?_) AllReady.nil)
          ·
            refine step_load_at rfl 151 (.tmp 42) rfl ⟨g, 0, none⟩ rfl (.agg (wordsW st)) (load_state HS8.out R5.out) ?_
            refine hK _ _ ?_
            clear hK K
            try simp only [Act.put, List.setIfInBounds_toArray, List.set_cons_zero, List.set_cons_succ]
            refine wpAny_ready (rs := [8]) (by kernel_rfl) (by simp) ?_
            refine AllReady.cons (by simp only [List.getElem?_toArray, List.getElem?_cons_succ, List.getElem?_cons_zero]; rfl) (fun K hK => ?_) AllReady.nil
            refine step_load_at rfl 154 (.tmp 46) rfl ⟨g, 8, none⟩ rfl (.agg (cellsB Y).toArray) (load_block HS8.out HBL.out R5.out) ?_
            refine hK _ _ ?_
            clear hK K
            try simp only [Act.put, List.setIfInBounds_toArray, List.set_cons_zero, List.set_cons_succ]
            refine wpAny_ready (rs := [9]) (by kernel_rfl) (by simp) ?_
            refine AllReady.cons (by simp only [List.getElem?_toArray, List.getElem?_cons_succ, List.getElem?_cons_zero]; rfl) (fun K hK => ?_) AllReady.nil
            go_simp
            refine (mix_any st Y _ HS8.out HSM.out HBL.out).mono ?_
            rintro e w6 ⟨rfl, hb6⟩
            have R6 : Hid (w6.heap[g]? = some (.cells (hashV st Y (N + m)).toArray 156 (0, 0))) := Lib.hid ((hb6.block g (Array.getElem?_eq_some_iff.1 R5.out).1).trans R5.out)
            have iv6 : (Try.prog.info? 151).map (·.size) = some (wordsW (comp st Y)).size := by rw [wordsW_size, comp_len st Y HS8.out]; exact infoState
            have hf6 : 0 + (wordsW (comp st Y)).size ≤ (hashV st Y (N + m)).toArray.size := by rw [wordsW_size, comp_len st Y HS8.out, List.size_toArray, hashV_len _ _ _ HS8.out HBL.out]; omega
            have h16 : ∀ v ∈ (wordsW (comp st Y)).toList, v.oneCell' = true := by intro v hv; simp only [wordsW, List.mem_map] at hv; obtain ⟨z, _, rfl⟩ := hv; rfl
            refine hK _ _ ?_
            clear hK K
            try simp only [Act.put, List.setIfInBounds_toArray, List.set_cons_zero, List.set_cons_succ]
            refine wpAny_take (i := 10) (v := ?v10) (by simp only [List.getElem?_toArray, List.getElem?_cons_succ, List.getElem?_cons_zero]; rfl) (by kernel_rfl) (by kernel_rfl) (by kernel_rfl) (by exact fun _ _ _ h => h) (Or.inl ⟨by rfl, ?h10⟩) ?_
            case h10 => (intro w; go_simp; try with_reducible rfl)
            try simp only [Act.put, List.setIfInBounds_toArray, List.set_cons_zero, List.set_cons_succ]
            refine wpAny_take (i := 11) (v := ?v11) (by simp only [List.getElem?_toArray, List.getElem?_cons_succ, List.getElem?_cons_zero]; rfl) (by kernel_rfl) (by kernel_rfl) (by kernel_rfl) (by exact fun _ _ _ h => h) (Or.inl ⟨by rfl, ?h11⟩) ?_
            case h11 => (intro w; go_simp; try with_reducible rfl)
            try simp only [Act.put, List.setIfInBounds_toArray, List.set_cons_zero, List.set_cons_succ]
            refine wpAny_ready (rs := [12]) (by kernel_rfl) (by simp) ?_
            refine AllReady.cons (by simp only [List.getElem?_toArray, List.getElem?_cons_succ, List.getElem?_cons_zero]; rfl) (fun K hK => ?_) AllReady.nil
            refine step_store_part rfl 151 (.tmp 50) (.tmp 48) rfl g 0 (wordsW (comp st Y)) rfl rfl 156 _ R6.out iv6 hf6 h16 ?_
            refine hK _ _ ?_
            clear hK K
            try simp only [Act.put, List.setIfInBounds_toArray, List.set_cons_zero, List.set_cons_succ]
            refine wpAny_done (by kernel_rfl) ?_ _
            have R7 : (w6.setRow g (((hashV st Y (N + m)).toArray.toList.take 0 ++ (wordsW (comp st Y)).toList ++ (hashV st Y (N + m)).toArray.toList.drop (0 + (wordsW (comp st Y)).size)).toArray)).heap[g]? = some (.cells (hashV (comp st Y) Y (N + m)).toArray 156 (0, 0)) := by
              rw [setRow_heap w6 g _ _ 156 _ R6.out, List.take_zero, List.nil_append, wordsW_size, comp_len st Y HS8.out, ← hashV_state st (comp st Y) Y (N + m) HS8.out]
              rfl
            have B6 : w5.grownBy (w6.setRow g (((hashV st Y (N + m)).toArray.toList.take 0 ++ (wordsW (comp st Y)).toList ++ (hashV st Y (N + m)).toArray.toList.drop (0 + (wordsW (comp st Y)).size)).toArray)) (some g) := ((grown_drew w5 (some g)).trans (grown_below hb6 _)).trans (grown_setRow w6 g _)
            generalize w6.setRow g _ = w7 at R7 B6 ⊢
            have RR7 := Lib.hid R7
            have BB6 := Lib.hid B6
            clear R7 B6 R6 iv6 hf6 h16 hb6
            go_wp2_with fail
            go_roundw
            case rel =>
              refine ⟨k + m, n' - m, _, _, ?_, ?_, ?_, rfl, SS5.out.grown BB6.out, ?_, GG5.out.trans BB6.out⟩
              · have := HNK.out; omega
              · have := HNK.out; omega
              · omega
              · rw [HE.out m hm1]
                exact HashD.pieceEnd HNN.out HX.out HST.out HY.out HW.out.2.2.2 HT.out HEL.out (by omega) RR7.out
            case measure => simp; omega
          ·
            refine step_load_at rfl 154 (.tmp 46) rfl ⟨g, 8, none⟩ rfl (.agg (cellsB Y).toArray) (load_block HS8.out HBL.out R5.out) ?_
            refine hK _ _ ?_
            clear hK K
            try simp only [Act.put, List.setIfInBounds_toArray, List.set_cons_zero, List.set_cons_succ]
            refine wpAny_ready (rs := [4]) (by kernel_rfl) (by simp) ?_
            refine AllReady.cons (by simp only [List.getElem?_toArray, List.getElem?_cons_succ, List.getElem?_cons_zero]; rfl) (fun K hK => ?_) AllReady.nil
            refine step_load_at rfl 151 (.tmp 42) rfl ⟨g, 0, none⟩ rfl (.agg (wordsW st)) (load_state HS8.out R5.out) ?_
            refine hK _ _ ?_
            clear hK K
            try simp only [Act.put, List.setIfInBounds_toArray, List.set_cons_zero, List.set_cons_succ]
            refine wpAny_ready (rs := [9]) (by kernel_rfl) (by simp) ?_
            refine AllReady.cons (by simp only [List.getElem?_toArray, List.getElem?_cons_succ, List.getElem?_cons_zero]; rfl) (fun K hK => ?_) AllReady.nil
            go_simp
            refine (mix_any st Y _ HS8.out HSM.out HBL.out).mono ?_
            rintro e w6 ⟨rfl, hb6⟩
            have R6 : Hid (w6.heap[g]? = some (.cells (hashV st Y (N + m)).toArray 156 (0, 0))) := Lib.hid ((hb6.block g (Array.getElem?_eq_some_iff.1 R5.out).1).trans R5.out)
            have iv6 : (Try.prog.info? 151).map (·.size) = some (wordsW (comp st Y)).size := by rw [wordsW_size, comp_len st Y HS8.out]; exact infoState
            have hf6 : 0 + (wordsW (comp st Y)).size ≤ (hashV st Y (N + m)).toArray.size := by rw [wordsW_size, comp_len st Y HS8.out, List.size_toArray, hashV_len _ _ _ HS8.out HBL.out]; omega
            have h16 : ∀ v ∈ (wordsW (comp st Y)).toList, v.oneCell' = true := by intro v hv; simp only [wordsW, List.mem_map] at hv; obtain ⟨z, _, rfl⟩ := hv; rfl
            refine hK _ _ ?_
            clear hK K
            try simp only [Act.put, List.setIfInBounds_toArray, List.set_cons_zero, List.set_cons_succ]
            refine wpAny_take (i := 10) (v := ?v10) (by simp only [List.getElem?_toArray, List.getElem?_cons_succ, List.getElem?_cons_zero]; rfl) (by kernel_rfl) (by kernel_rfl) (by kernel_rfl) (by exact fun _ _ _ h => h) (Or.inl ⟨by rfl, ?h10⟩) ?_
            case h10 => (intro w; go_simp; try with_reducible rfl)
            try simp only [Act.put, List.setIfInBounds_toArray, List.set_cons_zero, List.set_cons_succ]
            refine wpAny_take (i := 11) (v := ?v11) (by simp only [List.getElem?_toArray, List.getElem?_cons_succ, List.getElem?_cons_zero]; rfl) (by kernel_rfl) (by kernel_rfl) (by kernel_rfl) (by exact fun _ _ _ h => h) (Or.inl ⟨by rfl, ?h11⟩) ?_
            case h11 => (intro w; go_simp; try with_reducible rfl)
            try simp only [Act.put, List.setIfInBounds_toArray, List.set_cons_zero, List.set_cons_succ]
            refine wpAny_ready (rs := [12]) (by kernel_rfl) (by simp) ?_
            refine AllReady.cons (by simp only [List.getElem?_toArray, List.getElem?_cons_succ, List.getElem?_cons_zero]; rfl) (fun K hK => ?_) AllReady.nil
            refine step_store_part rfl 151 (.tmp 50) (.tmp 48) rfl g 0 (wordsW (comp st Y)) rfl rfl 156 _ R6.out iv6 hf6 h16 ?_
            refine hK _ _ ?_
            clear hK K
            try simp only [Act.put, List.setIfInBounds_toArray, List.set_cons_zero, List.set_cons_succ]
            refine wpAny_done (by kernel_rfl) ?_ _
            have R7 : (w6.setRow g (((hashV st Y (N + m)).toArray.toList.take 0 ++ (wordsW (comp st Y)).toList ++ (hashV st Y (N + m)).toArray.toList.drop (0 + (wordsW (comp st Y)).size)).toArray)).heap[g]? = some (.cells (hashV (comp st Y) Y (N + m)).toArray 156 (0, 0)) := by
              rw [setRow_heap w6 g _ _ 156 _ R6.out, List.take_zero, List.nil_append, wordsW_size, comp_len st Y HS8.out, ← hashV_state st (comp st Y) Y (N + m) HS8.out]
              rfl
            have B6 : w5.grownBy (w6.setRow g (((hashV st Y (N + m)).toArray.toList.take 0 ++ (wordsW (comp st Y)).toList ++ (hashV st Y (N + m)).toArray.toList.drop (0 + (wordsW (comp st Y)).size)).toArray)) (some g) := ((grown_drew w5 (some g)).trans (grown_below hb6 _)).trans (grown_setRow w6 g _)
            generalize w6.setRow g _ = w7 at R7 B6 ⊢
            have RR7 := Lib.hid R7
            have BB6 := Lib.hid B6
            clear R7 B6 R6 iv6 hf6 h16 hb6
            go_wp2_with fail
            go_roundw
            case rel =>
              refine ⟨k + m, n' - m, _, _, ?_, ?_, ?_, rfl, SS5.out.grown BB6.out, ?_, GG5.out.trans BB6.out⟩
              · have := HNK.out; omega
              · have := HNK.out; omega
              · omega
              · rw [HE.out m hm1]
                exact HashD.pieceEnd HNN.out HX.out HST.out HY.out HW.out.2.2.2 HT.out HEL.out (by omega) RR7.out
            case measure => simp; omega
        · obtain ⟨y, hy⟩ : ∃ y, x + m = y := ⟨_, rfl⟩
          have hT : ((N : Int) + (m : Int)).tmod 64 = (y : Int) := by rw [Int.tmod_eq_emod_of_nonneg (by omega)]; omega
          have hy0 : ((y : Int) == 0) = false := by
            have : (y : Int) ≠ 0 := by omega
            simpa using this
          have hyp : 0 < y := by omega
          have HY2 := Lib.hid hy
          clear hy
          go_wp2_with fail
          go_roundw
          case rel =>
            refine ⟨k + m, n' - m, _, _, ?_, ?_, ?_, rfl, SS5.out, ?_, GG5.out⟩
            · have := HNK.out; omega
            · have := HNK.out; omega
            · omega
            · rw [HE.out m hm1]
              exact HashD.piece HNN.out HX.out HST.out HY.out HW.out.2.2.2 HT.out HEL.out (by omega) R5.out
          case measure => simp; omega
    · obtain rfl : n' = 0 := by omega
      have HD2 := Lib.hid hD
      have HG2 := Lib.hid hG
      clear hD hG hS
      go_wp2_with fail
      go_end0
      refine ⟨rfl, ?_, HG2.out⟩
      have := HD2.out
      rw [List.take_of_length_le (by have := HN.out; have := HNK.out; omega)] at this
      exact this
end Go.Proofs.Ytadagbkfemcgfaa
