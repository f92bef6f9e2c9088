/-
  Own work.
-/
import Derived.Test.YthoebjekkfhhgaaGreatCp9
import Derived.Test.YthoebjekkfhhgaaGreatG1
import Derived.Test.YthoebjekkfhhgaaGreatH8
import Derived.OrdersHeld
import Derived.Deep.RegionHeld
import Derived.Deep.RegionLaw
import Derived.Deep.DeepCutAuto
import Derived.Test.YthoebjekkfhhgaaGreatPad
import Derived.Lib.AppendZeros
import Derived.Lib.SliceRun
set_option linter.unusedVariables false
set_option linter.unusedSimpArgs false
set_option maxRecDepth 100000
set_option maxHeartbeats 8000000
namespace Go.Proofs.YthoebjekkfhhgaaGreat
open Go.RowKit
section
variable {P : Program}
end
def Src (w : World) (g : Nat) (A : Option Addr) (n : Nat) (l : List UInt8) : Prop :=
 n = l.length /\ (0 < n -> ∃ k o, A = some ⟨k, o, none⟩ /\ k ≠ g /\ k < w.heap.size /\ ∀ i b, l[i]? = some b -> w.cell? ⟨k, o + i, none⟩ = some (.int .u8 (b.toNat : Int)))
theorem Src.of_below {w : World} {g B n : Nat} {A : Option Addr} {l : List UInt8} (h : HasB w B A n l) (hB : B <= g) (hg : g < w.heap.size) : Src w g A n l :=
 ⟨h.1, fun hn => by
  obtain ⟨k, o, e, hk, hc⟩ := h.2 hn
  exact ⟨k, o, e, by omega, by omega, hc⟩⟩
theorem Src.grown {w w' : World} {g n : Nat} {A : Option Addr} {l : List UInt8} (h : Src w g A n l) (hb : w.grownBy w' (some g)) : Src w' g A n l :=
 ⟨h.1, fun hn => by
  obtain ⟨k, o, e, hk, hlt, hc⟩ := h.2 hn
  refine ⟨k, o, e, hk, Nat.lt_of_lt_of_le hlt hb.size, fun i b hi => ?_⟩
  exact hb.cell (hc i b hi) (by simpa using hk)⟩
theorem Src.below {w w' : World} {g n : Nat} {A : Option Addr} {l : List UInt8} (h : Src w g A n l) (hb : Below w.heap.size w w') : Src w' g A n l :=
 ⟨h.1, fun hn => by
  obtain ⟨k, o, e, hk, hlt, hc⟩ := h.2 hn
  exact ⟨k, o, e, hk, Nat.lt_of_lt_of_le hlt hb.size, fun i b hi => (hb.cell (p := ⟨k, o + i, none⟩) hlt).trans (hc i b hi)⟩⟩
theorem Src.cut {w : World} {g n m : Nat} {A A' : Option Addr} {l : List UInt8} (h : Src w g A n l) (hm : m <= n) (hA : m < n -> A' = A.map fun a => a.add m) : Src w g A' (n - m) (l.drop m) :=
 ⟨by rw [List.length_drop, h.1], fun hn => by
  obtain ⟨k, o, e, hk, hlt, hc⟩ := h.2 (by omega)
  refine ⟨k, o + m, by rw [hA (by omega), e]; simp [Addr.add_lit], hk, hlt, fun i b hi => ?_⟩
  rw [Nat.add_assoc]
  exact hc (m + i) b (by rw [<- hi, List.getElem?_drop])⟩
theorem step_copy_row' {P : Program} {ops : Array Oper} {o : Oper} {a : Act} {w : World} {K : Act -> World -> Prop} {Q : Exit -> Act -> World -> Prop} {E : Prop} (hgd : o.guard = none) (d s : Operand) (dT sT : TypeId)
 (ho : o.op = .call { callee := .builtin .copy, args := #[d, s], argTypes := #[dT, sT] }) (elem : TypeId) (hu : P.underlying dT = some (.slice elem)) (hsz : (P.info? elem).map (·.size) = some 1)
 (dp sp : Option Addr) (dLen dCap sLen sCap : Nat) (hd : a.eval d = .slice dp dLen dCap) (hs : a.eval s = .slice sp sLen sCap)
 (g off : Nat) (cur : List Value) (t : TypeId) (hg : w.heap[g]? = some (.cells cur.toArray t (0, 0))) (cs : List Value) (m : Nat) (hm : cs.length = m) (hn : m = Nat.min sLen dLen)
 (hpos : 0 < cs.length -> dp = some ⟨g, off, none⟩ /\ ∃ ad, sp = some ad /\ ∀ j v, cs[j]? = some v -> w.cell? (ad.add j) = some v)
 (hfit : off + m <= cur.length) (h1 : ∀ v ∈ cs, v.oneCell' = true)
 (h : ∀ w', RowKit.Hid (w'.heap[g]? = some (.cells (splice cur off cs).toArray t (0, 0))) -> w.grownBy w' (some g) -> K (a.put o.dst (.int .i64 (m : Int))) w') :
 if Region.wanted o (yielded ops a.tmps) = true then Oper.wp P o a w K Q else E := by
 subst hm
 have hw : Region.wanted o (yielded ops a.tmps) = true := by simp [Region.wanted, hgd]
 rw [if_pos hw]
 by_cases h0 : cs.length = 0
 · obtain rfl : cs = [] := List.eq_nil_of_length_eq_zero h0
   have hrun := run_copy_none (P := P) w dT sT o.type elem dp sp dLen dCap sLen sCap hu hsz (by simpa using hn.symm)
   unfold Oper.wp
   simp [execOp, ho, resolve, invoke, builtin, hd, hs, hrun, Result.andThen]
   exact h w (show _ = _ by simpa [splice] using hg) (World.grownBy.refl _ _)
 · obtain ⟨rfl, ad, rfl, hsrc⟩ := hpos (by omega)
   have hrun := run_copy_row (P := P) w dT sT o.type elem g off dLen dCap ad sLen sCap cur.toArray t cs hu hsz hg hn hsrc (by simpa using hfit) h1
   unfold Oper.wp
   simp [execOp, ho, resolve, invoke, builtin, hd, hs, hrun, Result.andThen]
   exact h _ (show _ = _ by simpa [splice] using setRow_heap w g _ _ t _ hg) ⟨rfl, rfl, rfl, by simp [World.setRow], fun k _ hk => setRow_other w g k _ (fun e => hk (by rw [e]))⟩
theorem step_load_at {P : Program} {ops : Array Oper} {o : Oper} {a : Act} {w : World} {K : Act -> World -> Prop} {Q : Exit -> Act -> World -> Prop} {E : Prop} (hgd : o.guard = none) (ty : TypeId) (x : Operand) (ho : o.op = .load ty x) (ad : Addr) (hx : a.eval x = .pointer (some ad)) (v : Value)
 (hl : (loadVar ty ad).run P w = .ok v w) (h : K (a.put o.dst v) w) : if Region.wanted o (yielded ops a.tmps) = true then Oper.wp P o a w K Q else E := by
 rw [if_pos (by simp [Region.wanted, hgd])]
 unfold Oper.wp execOp
 simp only [ho, hx, Instr.loadAt, Instr.sureAddr, Sem.run_bind, Sem.run_pure, Result.andThen_ok, hl]
 exact h
theorem step_store_part {P : Program} {ops : Array Oper} {o : Oper} {a : Act} {w : World} {K : Act -> World -> Prop} {Q : Exit -> Act -> World -> Prop} {E : Prop} (hgd : o.guard = none) (ty : TypeId) (x y : Operand) (ho : o.op = .store ty x y)
 (g off : Nat) (cells : Array Value) (hx : a.eval x = .pointer (some ⟨g, off, none⟩)) (hy : a.eval y = .agg cells)
 (t : TypeId) (cur : Array Value) (hg : w.heap[g]? = some (.cells cur t (0, 0))) (hi : (P.info? ty).map (·.size) = some cells.size) (hfit : off + cells.size <= cur.size) (h1 : ∀ v ∈ cells.toList, v.oneCell' = true)
 (h : K (a.put o.dst undef) (w.setRow g (cur.toList.take off ++ cells.toList ++ cur.toList.drop (off + cells.size)).toArray)) : if Region.wanted o (yielded ops a.tmps) = true then Oper.wp P o a w K Q else E := by
 rw [if_pos (by simp [Region.wanted, hgd])]
 exact wp_store_part ty x y ho g off cells hx hy t cur hg hi hfit h1 h
theorem HashD.piece {w5 : World} {g N x m : Nat} {E b e Y : List UInt8} {st : List Nat} (hN : E.length = N) (hx : N % 64 = x) (hst : mixN E (E.length / 64) = st) (hY : splice b x e = Y) (hb : b.length = 64)
 (ht : b.take (E.length % 64) = E.drop (64 * (E.length / 64))) (hm : e.length = m) (hlt : x + m < 64) (row : w5.heap[g]? = some (.cells (hashV st Y (N + m)).toArray 254 (0, 0))) : HashD w5 g (E ++ e) := by
 subst hN hx hst hY hm
 obtain ⟨h1, h2, h3, h4⟩ := piece_in E b e hb ht hlt
 refine ⟨splice b (E.length % 64) e, ⟨?_, mixN_len _ _, mixN_small _ _, ?_⟩, h4⟩
 · rw [h3, row, List.length_append]
 · rw [splice_len _ _ _ (by omega)]; exact hb
theorem HashD.pieceEnd {w5 : World} {g N x m : Nat} {E b e Y : List UInt8} {st : List Nat} (hN : E.length = N) (hx : N % 64 = x) (hst : mixN E (E.length / 64) = st) (hY : splice b x e = Y) (hb : b.length = 64)
 (ht : b.take (E.length % 64) = E.drop (64 * (E.length / 64))) (hm : e.length = m) (hlt : x + m = 64) (row : w5.heap[g]? = some (.cells (hashV (comp st Y) Y (N + m)).toArray 254 (0, 0))) : HashD w5 g (E ++ e) := by
 subst hN hx hst hY hm
 obtain ⟨h1, h2, h3, h4⟩ := piece_end E b e hb ht hlt
 refine ⟨splice b (E.length % 64) e, ⟨?_, mixN_len _ _, mixN_small _ _, ?_⟩, h4⟩
 · rw [h3, row, List.length_append]
 · rw [splice_len _ _ _ (by omega)]; exact hb
theorem load_state {w : World} {g n : Nat} {s : List Nat} {b : List UInt8} (hs : s.length = 8) (h : w.heap[g]? = some (.cells (hashV s b n).toArray 254 (0, 0))) : (loadVar 249 ⟨g, 0, none⟩).run Tryz.prog w = .ok (.agg (wordsW s)) w := by
 refine run_loadVar_part w g 0 _ 249 (hashV s b n) (s.map fun (x : Nat) => Value.int .u32 (x : Int)) (0, 0) _ h Tryz.underlying249 rfl (by rw [List.length_map, hs]; exact infoState) ?_
 intro j v hv
 have hj := (List.getElem?_eq_some_iff.1 hv).1
 rw [Nat.zero_add]
 unfold hashV
 rw [List.getElem?_append_left hj]
 exact hv
theorem load_block {w : World} {g n : Nat} {s : List Nat} {b : List UInt8} (hs : s.length = 8) (hb : b.length = 64) (h : w.heap[g]? = some (.cells (hashV s b n).toArray 254 (0, 0))) : (loadVar 252 ⟨g, 8, none⟩).run Tryz.prog w = .ok (.agg (cellsB b).toArray) w := by
 refine run_loadVar_part w g 8 _ 252 (hashV s b n) (cellsB b) (0, 0) _ h Tryz.underlying252 rfl (by rw [cellsB_length, hb]; exact infoBlock) ?_
 intro j v hv
 obtain ⟨x, hx, rfl⟩ := cellsB_at hv
 exact hashV_at s b n j x hs hx
theorem grown_setRow (w : World) (g : Nat) (cs : Array Value) : w.grownBy (w.setRow g cs) (some g) := ⟨rfl, rfl, rfl, by simp [World.setRow], fun k _ hk => setRow_other w g k cs (fun e => hk (by rw [e]))⟩
theorem grown_setC (w : World) (g k : Nat) (u : Value) : w.grownBy (w.setCell ⟨g, k, none⟩ u) (some g) := ⟨rfl, rfl, rfl, by simp [World.setCell], fun i _ hne => Below.heap_setCell w ⟨g, k, none⟩ u i (by rintro rfl; exact hne rfl)⟩
theorem grown_below {w w' : World} (h : Below w.heap.size w w') (row : Option Nat) : w.grownBy w' row := ⟨h.os, h.tape, h.output, h.size, fun i hi _ => h.block i hi⟩
theorem grown_drew (w : World) (row : Option Nat) : w.grownBy w.drew row := ⟨rfl, rfl, rfl, Nat.le_refl _, fun _ _ _ => rfl⟩
def RetWrS (w : World) (g : Nat) (D : List UInt8) (e : Ending) (w' : World) : Prop := e = .returned (.tuple #[]) /\ HashD w' g D /\ w.grownBy w' (some g)
theorem write_any (g n c : Nat) (D l : List UInt8) (A : Option Addr) (w : World) (h : HashD w g D) (hs : Src w g A n l) (hc : n <= c) (hlen : D.length + l.length <= 4294967296) :
 Calls Tryz.prog 156 #[.pointer (some ⟨g, 0, none⟩), .slice A n c] w (RetWrS w g (D ++ l)) := by
 have hnl := hs.1
 obtain ⟨b, h1, h2⟩ := h
 have CN := isNone_live g D.length _ b w h1 (by omega) (HashD.live (w := w) (g := g))
 have H1 : Hid (HashD w g D) := lH ⟨b, h1, h2⟩
 have HS := lH hs
 have HN := lH hnl
 clear h1 h2 hs hnl
 go_enter Tryz.func156, Tryz.ntmps156
 go_wp2_with (go_at_call 177; refine CN.mono ?_; rintro e w1 ⟨rfl, rfl⟩)
 go_loopw [1] (fun v wr => ∃ (k n' c' : Nat) (A' : Option Addr), k <= n /\ n' = n - k /\ n' <= c' /\ v = .slice A' n' c' /\ Src wr g A' n' (l.drop k) /\ HashD wr g (D ++ l.take k) /\ w.grownBy wr (some g)) (fun v _ => match v with | .slice _ n' _ => n' | _ => 0)
 case atStart => exact ⟨0, n, c, A, by omega, by omega, hc, rfl, HS.out, by simpa using H1.out, World.grownBy.refl _ _⟩
 case round =>
  obtain ⟨k, n', c', A', hk, hn', hc', rfl, hS, hD, hG⟩ := hrel
  have HNK := lH hn'
  by_cases hpos : 0 < n'
  · obtain ⟨b, hW, ht⟩ := hD
    have hl1 : (D ++ l.take k).length = D.length + k := by rw [List.length_append, List.length_take]; have := HN.out; omega
    have hlE : (D ++ l.take k).length + n' <= 4294967296 := by rw [hl1]; have := HN.out; omega
    have hEn : ∀ m, m <= n' -> D ++ l.take (k + m) = (D ++ l.take k) ++ (l.drop k).take m := by
     intro m hm
     rw [List.append_assoc, List.take_add]
    generalize D ++ l.take k = E at hW ht hl1 hlE hEn
    have c72 := cell_of_row wr g 72 _ 254 (0, 0) hW.1
    rw [List.getElem?_toArray, hashV_size _ _ _ hW.2.1 hW.2.2.2] at c72
    have f72 := frozen_of_row wr g 72 _ 254 hW.1
    have HW := lH hW
    have HT := lH ht
    have HE := lH hEn
    have HSr := lH hS
    have HG := lH hG
    obtain ⟨N, hN⟩ : ∃ N, E.length = N := ⟨_, rfl⟩
    obtain ⟨x, hx⟩ : ∃ x, N % 64 = x := ⟨_, rfl⟩
    have hxI : ((N : Int) % 64) = (x : Int) := by omega
    have hxT : ((N : Int).tmod 64) = (x : Int) := by rw [Int.tmod_eq_emod_of_nonneg (by omega)]; omega
    have hxl : (x : Int) <= 64 := by omega
    have hx64 : x < 64 := by omega
    have hN2 : N <= 4294967296 := by rw [<- hN]; omega
    rw [hN] at c72 hlE
    have HNN := lH hN
    have HX := lH hx
    clear hN hx hW ht hEn hS hG hl1 hn'
    have hne : ¬ (64 = x) := by omega
    obtain ⟨kk, oo, rfl, hkg, hklt, hcell⟩ := HSr.out.2 hpos
    obtain ⟨m, hm⟩ : ∃ m, m = min n' (64 - x) := ⟨_, rfl⟩
    have hm1 : m <= n' := by omega
    have hm0 : 0 < m := by omega
    have hmx : x + m <= 64 := by omega
    have hldk : (l.drop k).length = n' := HSr.out.1.symm
    have hcsl : (cellsB ((l.drop k).take m)).length = m := by rw [cellsB_length, List.length_take]; omega
    have hcsrc : ∀ j v, (cellsB ((l.drop k).take m))[j]? = some v -> wr.cell? ((⟨kk, oo, none⟩ : Addr).add j) = some v := by
     intro j v hv
     obtain ⟨y, hy, rfl⟩ := cellsB_at hv
     rw [Addr.add_lit]
     refine hcell j y ?_
     rw [List.getElem?_take] at hy
     split at hy
     · exact hy
     · cases hy
    have hfit : 8 + x + m <= (hashV (mixN E (E.length / 64)) b N).length := by rw [hashV_len _ _ _ HW.out.2.1 HW.out.2.2.2]; omega
    have hmn : m = Nat.min n' (64 - x) := hm
    have hrow : wr.heap[g]? = some (.cells (hashV (mixN E (E.length / 64)) b N).toArray 254 (0, 0)) := by rw [<- HNN.out]; exact HW.out.1
    have hsp : splice (hashV (mixN E (E.length / 64)) b N) (8 + x) (cellsB ((l.drop k).take m)) = hashV (mixN E (E.length / 64)) (splice b x ((l.drop k).take m)) N :=
     hashV_splice _ _ _ _ _ HW.out.2.1 HW.out.2.2.2 (by rw [List.length_take]; omega)
    have hbl : (splice b x ((l.drop k).take m)).length = 64 := by rw [splice_len _ _ _ (by rw [HW.out.2.2.2, List.length_take]; omega)]; exact HW.out.2.2.2
    have hNm : N + m <= 4294967296 := by omega
    have hsz8 : (Tryz.prog.info? 5).map (·.size) = some 1 := by kernel_rfl
    obtain ⟨X, hX⟩ : ∃ X, cellsB ((l.drop k).take m) = X := ⟨_, rfl⟩
    have h1c := cellsB_one ((l.drop k).take m)
    rw [hX] at hcsl hcsrc hsp h1c
    obtain ⟨Y, hY⟩ : ∃ Y, splice b x ((l.drop k).take m) = Y := ⟨_, rfl⟩
    rw [hY] at hsp hbl
    obtain ⟨st, hst⟩ : ∃ st, mixN E (E.length / 64) = st := ⟨_, rfl⟩
    rw [hst] at hrow hfit hsp
    have hs8 : st.length = 8 := by rw [<- hst]; exact HW.out.2.1
    have HX2 := lH hX
    have HY := lH hY
    have HST := lH hst
    have HCL := lH hcsl
    have HCS := lH hcsrc
    have HF := lH hfit
    have HMN := lH hmn
    have HROW := lH hrow
    have HSP := lH hsp
    have HBL := lH hbl
    have H1C := lH h1c
    have HS8 := lH hs8
    have HLD := lH hldk
    have HM := lH hm
    clear hX hY hst hcsl hcsrc hfit hmn hrow hsp hbl h1c hs8 hldk hm hcell
    go_wp2_with fail
    go_region_law (refine step_copy_row' rfl (.tmp 18) (.tmp 19) 34 34 rfl 5 Tryz.underlying34 hsz8 _ _ _ _ _ _ rfl rfl g (8 + x) (hashV st b N) 254 HROW.out X m HCL.out HMN.out (fun _ => ⟨rfl, _, rfl, HCS.out⟩) HF.out H1C.out ?_; intro w4 HG4 hb4)
    have row4 : w4.heap[g]? = some (.cells (hashV st Y N).toArray 254 (0, 0)) := by rw [<- HSP.out]; exact HG4.out
    have c4 := cell_of_row w4 g 72 _ 254 (0, 0) row4
    rw [List.getElem?_toArray, hashV_size _ _ _ HS8.out HBL.out] at c4
    have f4 := frozen_of_row w4 g 72 _ 254 row4
    have row5 : (w4.setCell ⟨g, 72, none⟩ (.int .u64 ((N : Int) + (m : Int)))).heap[g]? = some (.cells (hashV st Y (N + m)).toArray 254 (0, 0)) := by
     rw [heap_setCell_same w4 g 72 _ _ _ row4, <- hashV_setSize st Y N (N + m) HS8.out HBL.out]
     simp
    have G5 : w.grownBy (w4.setCell ⟨g, 72, none⟩ (.int .u64 ((N : Int) + (m : Int)))) (some g) := HG.out.trans (((grown_drew wr (some g)).trans hb4).trans (grown_setC w4 g 72 _))
    have S5 : Src (w4.setCell ⟨g, 72, none⟩ (.int .u64 ((N : Int) + (m : Int)))) g (if c' = m then some ⟨kk, oo, none⟩ else some ⟨kk, oo + m, none⟩) (n' - m) (l.drop (k + m)) := by
     have h0 : Src w4 g (some ⟨kk, oo, none⟩) n' (l.drop k) := Src.grown (w := wr.drew) HSr.out hb4
     have h1 := h0.grown (grown_setC w4 g 72 (.int .u64 ((N : Int) + (m : Int))))
     have h2 := h1.cut (m := m) (A' := if c' = m then some ⟨kk, oo, none⟩ else some ⟨kk, oo + m, none⟩) hm1 (fun hlt => by rw [if_neg (by omega)]; simp [Addr.add_lit])
     rw [List.drop_drop] at h2
     exact h2
    have hel : ((l.drop k).take m).length = m := by rw [List.length_take, HLD.out]; omega
    have HEL := lH hel
    have R5 := lH row5
    have GG5 := lH G5
    have HB4 := lH hb4
    clear row4 row5 G5 hb4 HG4 hel
    by_cases hcm : c' = m
    all_goals
     first | rw [if_pos hcm] at S5 | rw [if_neg hcm] at S5
     have SS5 := lH S5
     clear S5
     by_cases hB : x + m = 64
     · have hT : ((N : Int) + (m : Int)).tmod 64 = 0 := by rw [Int.tmod_eq_emod_of_nonneg (by omega)]; omega
       have ss := HW.out.2.2.1
       rw [HST.out] at ss
       have HSM := lH ss
       clear ss
       go_wp2_with fail
       generalize hw5 : w4.setCell _ _ = w5 at R5 GG5 SS5 ⊢
       clear hw5
       refine wp_region_any (by kernel_rfl) ?_
       change wpAny _ _ _ _ _ _ _ (World.drew _)
       refine wpAny_take (i := 0) (v := ?v0) (by simp only [List.getElem?_toArray, List.getElem?_cons_succ, List.getElem?_cons_zero]; rfl) (by kernel_rfl) (by kernel_rfl) (by kernel_rfl) (by exact fun _ _ _ h => h) (Or.inl ⟨by rfl, ?h0⟩) ?_
       case h0 => (intro w; go_simp; try with_reducible rfl)
       try simp only [aP,aN,aS,aZ,aC]
       refine wpAny_take (i := 1) (v := ?v1) (by simp only [List.getElem?_toArray, List.getElem?_cons_succ, List.getElem?_cons_zero]; rfl) (by kernel_rfl) (by kernel_rfl) (by kernel_rfl) (by exact fun _ _ _ h => h) (Or.inl ⟨by rfl, ?h1⟩) ?_
       case h1 => (intro w; go_simp; try with_reducible rfl)
       try simp only [aP,aN,aS,aZ,aC]
       refine wpAny_take (i := 2) (v := ?v2) (by simp only [List.getElem?_toArray, List.getElem?_cons_succ, List.getElem?_cons_zero]; rfl) (by kernel_rfl) (by kernel_rfl) (by kernel_rfl) (by exact fun _ _ _ h => h) (Or.inl ⟨by rfl, ?h2⟩) ?_
       case h2 => (intro w; go_simp; try with_reducible rfl)
       try simp only [aP,aN,aS,aZ,aC]
       refine wpAny_take (i := 3) (v := ?v3) (by simp only [List.getElem?_toArray, List.getElem?_cons_succ, List.getElem?_cons_zero]; rfl) (by kernel_rfl) (by kernel_rfl) (by kernel_rfl) (by exact fun _ _ _ h => h) (Or.inl ⟨by rfl, ?h3⟩) ?_
       case h3 => (intro w; go_simp; try with_reducible rfl)
       try simp only [aP,aN,aS,aZ,aC]
       refine wpAny_take (i := 5) (v := ?v5) (by simp only [List.getElem?_toArray, List.getElem?_cons_succ, List.getElem?_cons_zero]; rfl) (by kernel_rfl) (by kernel_rfl) (by kernel_rfl) (by exact fun _ _ _ h => h) (Or.inl ⟨by rfl, ?h5⟩) ?_
       case h5 => (intro w; go_simp; try with_reducible rfl)
       try simp only [aP,aN,aS,aZ,aC]
       refine wpAny_take (i := 6) (v := ?v6) (by simp only [List.getElem?_toArray, List.getElem?_cons_succ, List.getElem?_cons_zero]; rfl) (by kernel_rfl) (by kernel_rfl) (by kernel_rfl) (by exact fun _ _ _ h => h) (Or.inl ⟨by rfl, ?h6⟩) ?_
       case h6 => (intro w; go_simp; try with_reducible rfl)
       try simp only [aP,aN,aS,aZ,aC]
       refine wpAny_take (i := 7) (v := ?v7) (by simp only [List.getElem?_toArray, List.getElem?_cons_succ, List.getElem?_cons_zero]; rfl) (by kernel_rfl) (by kernel_rfl) (by kernel_rfl) (by exact fun _ _ _ h => h) (Or.inl ⟨by rfl, ?h7⟩) ?_
       case h7 => (intro w; go_simp; try with_reducible rfl)
       try simp only [aP,aN,aS,aZ,aC]
       refine wpAny_ready (rs := [4, 8]) (by kernel_rfl) (by simp) ?_
       refine AllReady.cons (by simp only [List.getElem?_toArray, List.getElem?_cons_succ, List.getElem?_cons_zero]; rfl) (fun K hK => ?_) (AllReady.cons (by simp only [List.getElem?_toArray, List.getElem?_cons_succ, List.getElem?_cons_zero]; rfl) (fun K hK => ?_) AllReady.nil)
       ·
        refine step_load_at rfl 249 (.tmp 42) rfl ⟨g, 0, none⟩ rfl (.agg (wordsW st)) (load_state HS8.out R5.out) ?_
        refine hK _ _ ?_
        clear hK K
        try simp only [aP,aN,aS,aZ,aC]
        refine wpAny_ready (rs := [8]) (by kernel_rfl) (by simp) ?_
        refine AllReady.cons (by simp only [List.getElem?_toArray, List.getElem?_cons_succ, List.getElem?_cons_zero]; rfl) (fun K hK => ?_) AllReady.nil
        refine step_load_at rfl 252 (.tmp 46) rfl ⟨g, 8, none⟩ rfl (.agg (cellsB Y).toArray) (load_block HS8.out HBL.out R5.out) ?_
        refine hK _ _ ?_
        clear hK K
        try simp only [aP,aN,aS,aZ,aC]
        refine wpAny_ready (rs := [9]) (by kernel_rfl) (by simp) ?_
        refine AllReady.cons (by simp only [List.getElem?_toArray, List.getElem?_cons_succ, List.getElem?_cons_zero]; rfl) (fun K hK => ?_) AllReady.nil
        go_simp
        refine (mix_any st Y _ HS8.out HSM.out HBL.out).mono ?_
        rintro e w6 ⟨rfl, hb6⟩
        have R6 : Hid (w6.heap[g]? = some (.cells (hashV st Y (N + m)).toArray 254 (0, 0))) := lH ((hb6.block g (Array.getElem?_eq_some_iff.1 R5.out).1).trans R5.out)
        have iv6 : (Tryz.prog.info? 249).map (·.size) = some (wordsW (comp st Y)).size := by rw [wordsW_size, comp_len st Y HS8.out]; exact infoState
        have hf6 : 0 + (wordsW (comp st Y)).size <= (hashV st Y (N + m)).toArray.size := by rw [wordsW_size, comp_len st Y HS8.out, List.size_toArray, hashV_len _ _ _ HS8.out HBL.out]; omega
        have h16 : ∀ v ∈ (wordsW (comp st Y)).toList, v.oneCell' = true := by intro v hv; simp only [wordsW, List.mem_map] at hv; obtain ⟨z, _, rfl⟩ := hv; rfl
        refine hK _ _ ?_
        clear hK K
        try simp only [aP,aN,aS,aZ,aC]
        refine wpAny_take (i := 10) (v := ?v10) (by simp only [List.getElem?_toArray, List.getElem?_cons_succ, List.getElem?_cons_zero]; rfl) (by kernel_rfl) (by kernel_rfl) (by kernel_rfl) (by exact fun _ _ _ h => h) (Or.inl ⟨by rfl, ?h10⟩) ?_
        case h10 => (intro w; go_simp; try with_reducible rfl)
        try simp only [aP,aN,aS,aZ,aC]
        refine wpAny_take (i := 11) (v := ?v11) (by simp only [List.getElem?_toArray, List.getElem?_cons_succ, List.getElem?_cons_zero]; rfl) (by kernel_rfl) (by kernel_rfl) (by kernel_rfl) (by exact fun _ _ _ h => h) (Or.inl ⟨by rfl, ?h11⟩) ?_
        case h11 => (intro w; go_simp; try with_reducible rfl)
        try simp only [aP,aN,aS,aZ,aC]
        refine wpAny_ready (rs := [12]) (by kernel_rfl) (by simp) ?_
        refine AllReady.cons (by simp only [List.getElem?_toArray, List.getElem?_cons_succ, List.getElem?_cons_zero]; rfl) (fun K hK => ?_) AllReady.nil
        refine step_store_part rfl 249 (.tmp 50) (.tmp 48) rfl g 0 (wordsW (comp st Y)) rfl rfl 254 _ R6.out iv6 hf6 h16 ?_
        refine hK _ _ ?_
        clear hK K
        try simp only [aP,aN,aS,aZ,aC]
        refine wpAny_done (by kernel_rfl) ?_ _
        have R7 : (w6.setRow g (((hashV st Y (N + m)).toArray.toList.take 0 ++ (wordsW (comp st Y)).toList ++ (hashV st Y (N + m)).toArray.toList.drop (0 + (wordsW (comp st Y)).size)).toArray)).heap[g]? = some (.cells (hashV (comp st Y) Y (N + m)).toArray 254 (0, 0)) := by
         rw [setRow_heap w6 g _ _ 254 _ R6.out, List.take_zero, List.nil_append, wordsW_size, comp_len st Y HS8.out, <- hashV_state st (comp st Y) Y (N + m) HS8.out]
         rfl
        have B6 : w5.grownBy (w6.setRow g (((hashV st Y (N + m)).toArray.toList.take 0 ++ (wordsW (comp st Y)).toList ++ (hashV st Y (N + m)).toArray.toList.drop (0 + (wordsW (comp st Y)).size)).toArray)) (some g) := ((grown_drew w5 (some g)).trans (grown_below hb6 _)).trans (grown_setRow w6 g _)
        generalize w6.setRow g _ = w7 at R7 B6 ⊢
        have RR7 := lH R7
        have BB6 := lH B6
        clear R7 B6 R6 iv6 hf6 h16 hb6
        go_wp2_with fail
        go_roundw
        case rel =>
         refine ⟨k + m, n' - m, _, _, ?_, ?_, ?_, rfl, SS5.out.grown BB6.out, ?_, GG5.out.trans BB6.out⟩
         · have := HNK.out; omega
         · have := HNK.out; omega
         · omega
         · rw [HE.out m hm1]
           exact HashD.pieceEnd HNN.out HX.out HST.out HY.out HW.out.2.2.2 HT.out HEL.out (by omega) RR7.out
        case measure => simp; omega
       ·
        refine step_load_at rfl 252 (.tmp 46) rfl ⟨g, 8, none⟩ rfl (.agg (cellsB Y).toArray) (load_block HS8.out HBL.out R5.out) ?_
        refine hK _ _ ?_
        clear hK K
        try simp only [aP,aN,aS,aZ,aC]
        refine wpAny_ready (rs := [4]) (by kernel_rfl) (by simp) ?_
        refine AllReady.cons (by simp only [List.getElem?_toArray, List.getElem?_cons_succ, List.getElem?_cons_zero]; rfl) (fun K hK => ?_) AllReady.nil
        refine step_load_at rfl 249 (.tmp 42) rfl ⟨g, 0, none⟩ rfl (.agg (wordsW st)) (load_state HS8.out R5.out) ?_
        refine hK _ _ ?_
        clear hK K
        try simp only [aP,aN,aS,aZ,aC]
        refine wpAny_ready (rs := [9]) (by kernel_rfl) (by simp) ?_
        refine AllReady.cons (by simp only [List.getElem?_toArray, List.getElem?_cons_succ, List.getElem?_cons_zero]; rfl) (fun K hK => ?_) AllReady.nil
        go_simp
        refine (mix_any st Y _ HS8.out HSM.out HBL.out).mono ?_
        rintro e w6 ⟨rfl, hb6⟩
        have R6 : Hid (w6.heap[g]? = some (.cells (hashV st Y (N + m)).toArray 254 (0, 0))) := lH ((hb6.block g (Array.getElem?_eq_some_iff.1 R5.out).1).trans R5.out)
        have iv6 : (Tryz.prog.info? 249).map (·.size) = some (wordsW (comp st Y)).size := by rw [wordsW_size, comp_len st Y HS8.out]; exact infoState
        have hf6 : 0 + (wordsW (comp st Y)).size <= (hashV st Y (N + m)).toArray.size := by rw [wordsW_size, comp_len st Y HS8.out, List.size_toArray, hashV_len _ _ _ HS8.out HBL.out]; omega
        have h16 : ∀ v ∈ (wordsW (comp st Y)).toList, v.oneCell' = true := by intro v hv; simp only [wordsW, List.mem_map] at hv; obtain ⟨z, _, rfl⟩ := hv; rfl
        refine hK _ _ ?_
        clear hK K
        try simp only [aP,aN,aS,aZ,aC]
        refine wpAny_take (i := 10) (v := ?v10) (by simp only [List.getElem?_toArray, List.getElem?_cons_succ, List.getElem?_cons_zero]; rfl) (by kernel_rfl) (by kernel_rfl) (by kernel_rfl) (by exact fun _ _ _ h => h) (Or.inl ⟨by rfl, ?h10⟩) ?_
        case h10 => (intro w; go_simp; try with_reducible rfl)
        try simp only [aP,aN,aS,aZ,aC]
        refine wpAny_take (i := 11) (v := ?v11) (by simp only [List.getElem?_toArray, List.getElem?_cons_succ, List.getElem?_cons_zero]; rfl) (by kernel_rfl) (by kernel_rfl) (by kernel_rfl) (by exact fun _ _ _ h => h) (Or.inl ⟨by rfl, ?h11⟩) ?_
        case h11 => (intro w; go_simp; try with_reducible rfl)
        try simp only [aP,aN,aS,aZ,aC]
        refine wpAny_ready (rs := [12]) (by kernel_rfl) (by simp) ?_
        refine AllReady.cons (by simp only [List.getElem?_toArray, List.getElem?_cons_succ, List.getElem?_cons_zero]; rfl) (fun K hK => ?_) AllReady.nil
        refine step_store_part rfl 249 (.tmp 50) (.tmp 48) rfl g 0 (wordsW (comp st Y)) rfl rfl 254 _ R6.out iv6 hf6 h16 ?_
        refine hK _ _ ?_
        clear hK K
        try simp only [aP,aN,aS,aZ,aC]
        refine wpAny_done (by kernel_rfl) ?_ _
        have R7 : (w6.setRow g (((hashV st Y (N + m)).toArray.toList.take 0 ++ (wordsW (comp st Y)).toList ++ (hashV st Y (N + m)).toArray.toList.drop (0 + (wordsW (comp st Y)).size)).toArray)).heap[g]? = some (.cells (hashV (comp st Y) Y (N + m)).toArray 254 (0, 0)) := by
         rw [setRow_heap w6 g _ _ 254 _ R6.out, List.take_zero, List.nil_append, wordsW_size, comp_len st Y HS8.out, <- hashV_state st (comp st Y) Y (N + m) HS8.out]
         rfl
        have B6 : w5.grownBy (w6.setRow g (((hashV st Y (N + m)).toArray.toList.take 0 ++ (wordsW (comp st Y)).toList ++ (hashV st Y (N + m)).toArray.toList.drop (0 + (wordsW (comp st Y)).size)).toArray)) (some g) := ((grown_drew w5 (some g)).trans (grown_below hb6 _)).trans (grown_setRow w6 g _)
        generalize w6.setRow g _ = w7 at R7 B6 ⊢
        have RR7 := lH R7
        have BB6 := lH B6
        clear R7 B6 R6 iv6 hf6 h16 hb6
        go_wp2_with fail
        go_roundw
        case rel =>
         refine ⟨k + m, n' - m, _, _, ?_, ?_, ?_, rfl, SS5.out.grown BB6.out, ?_, GG5.out.trans BB6.out⟩
         · have := HNK.out; omega
         · have := HNK.out; omega
         · omega
         · rw [HE.out m hm1]
           exact HashD.pieceEnd HNN.out HX.out HST.out HY.out HW.out.2.2.2 HT.out HEL.out (by omega) RR7.out
        case measure => simp; omega
     · obtain ⟨y, hy⟩ : ∃ y, x + m = y := ⟨_, rfl⟩
       have hT : ((N : Int) + (m : Int)).tmod 64 = (y : Int) := by rw [Int.tmod_eq_emod_of_nonneg (by omega)]; omega
       have hy0 : ((y : Int) == 0) = false := by
        have : (y : Int) ≠ 0 := by omega
        simpa using this
       have hyp : 0 < y := by omega
       have HY2 := lH hy
       clear hy
       go_wp2_with fail
       go_roundw
       case rel =>
        refine ⟨k + m, n' - m, _, _, ?_, ?_, ?_, rfl, SS5.out, ?_, GG5.out⟩
        · have := HNK.out; omega
        · have := HNK.out; omega
        · omega
        · rw [HE.out m hm1]
          exact HashD.piece HNN.out HX.out HST.out HY.out HW.out.2.2.2 HT.out HEL.out (by omega) R5.out
       case measure => simp; omega
  · obtain rfl : n' = 0 := by omega
    have HD2 := lH hD
    have HG2 := lH hG
    clear hD hG hS
    go_wp2_with fail
    go_end0
    refine ⟨rfl, ?_, HG2.out⟩
    have := HD2.out
    rw [List.take_of_length_le (by have := HN.out; have := HNK.out; omega)] at this
    exact this
theorem wpList_build1 {P : Program} {ops : Array Oper} {rest : List Oper} {o : Oper} {a : Act} {w : World} {Q : Exit -> Act -> World -> Prop} (hg : o.guard = none) (t : TypeId) (i : Nat) (x : Operand) (ho : o.op = .build t #[(i, x)]) (v : Value) (hx : a.eval x = v)
 (cells : Array Value) (hf : P.built t [(i, v)] = some cells) (h : wpList P ops Q rest (a.put o.dst (.agg cells)) w) : wpList P ops Q (o :: rest) a w := by
 refine wpList_plain hg fun K hK => ?_
 unfold Oper.wp execOp
 simp only [ho, Sem.run_bind, List.map_toArray, List.map_cons, List.map_nil, hx, run_build w t _ _ hf, Result.andThen_ok]
 exact hK _ _ h
theorem builtNew : Tryz.prog.built 254 [(0, .agg (wordsW H0L))] = some (hashV H0L (List.replicate 64 0) 0).toArray := by kernel_rfl
def RetNew (w : World) (D : List UInt8) (e : Ending) (w' : World) : Prop := ∃ g, e = .returned (.pointer (some ⟨g, 0, none⟩)) /\ w.heap.size <= g /\ HashD w' g D /\ Below w.heap.size w w'
theorem new_any (w : World) : Calls Tryz.prog 155 #[] w (RetNew w []) := by
 go_enter Tryz.func155, Tryz.ntmps155
 go_wp2_with (first
  | (go_at_call 176; refine (first_any _).mono ?_; rintro e w1 ⟨rfl, hb1⟩)
  | (refine wpList_build1 rfl 254 0 (.tmp 1) rfl _ rfl (hashV H0L (List.replicate 64 0) 0).toArray builtNew ?_))
 go_ret
 refine ⟨w1.heap.size, rfl, hb1.size, ⟨List.replicate 64 0, ⟨?_, rfl, H0L_small, by simp⟩, rfl⟩, hb1.alloc hb1.size _⟩
 exact heap_alloc_new w1 _
def SumR (w wr : World) (S : Nat) (B : List UInt8) (s : List Nat) : Prop :=
 Bw wr w.heap.size 56 (zer 32) /\ Bw wr (w.heap.size + 1) 252 B /\ Ww wr S 249 s /\ w.heap.size + 1 < S /\ Below w.heap.size w wr
theorem SumR.below {w wr wr' : World} {S : Nat} {B : List UInt8} {s : List Nat} (h : SumR w wr S B s) (hb : Below wr.heap.size wr wr') : SumR w wr' S B s := by
 obtain ⟨h0, h1, h2, h3, h4⟩ := h
 exact ⟨h0.below hb h0.lt, h1.below hb h1.lt, h2.below hb h2.lt, h3, h4.trans (hb.mono h4.size)⟩
theorem SumR.put {w wr : World} {S : Nat} {B : List UInt8} {s : List Nat} (h : SumR w wr S B s) {i : Nat} {x : UInt8} {y : Int} (hy : y = (x.toNat : Int)) : SumR w (wr.setCell ⟨w.heap.size + 1, i, none⟩ (.int .u8 y)) S (B.set i x) s := by
 obtain ⟨h0, h1, h2, h3, h4⟩ := h
 exact ⟨h0.far (show w.heap.size ≠ w.heap.size + 1 by omega) _, h1.set_ hy, h2.far (show S ≠ w.heap.size + 1 by omega) _, h3, h4.setCell (p := ⟨w.heap.size + 1, i, none⟩) (show w.heap.size <= w.heap.size + 1 by omega) _⟩
theorem SumR.putS {w wr : World} {S : Nat} {B : List UInt8} {s s' : List Nat} (h : SumR w wr S B s) : SumR w (wr.setRow S (wordsW s')) S B s' := by
 obtain ⟨h0, h1, h2, h3, h4⟩ := h
 exact ⟨h0.rowFar (by omega) _, h1.rowFar (by omega) _, h2.row, h3, below_setRow h4 (by omega) _⟩
theorem SumR.putB {w wr : World} {S : Nat} {B B' : List UInt8} {s : List Nat} (h : SumR w wr S B s) : SumR w (wr.setRow (w.heap.size + 1) (cellsB B').toArray) S B' s := by
 obtain ⟨h0, h1, h2, h3, h4⟩ := h
 exact ⟨h0.rowFar (by omega) _, h1.row, h2.rowFar (by omega) _, h3, below_setRow h4 (by omega) _⟩
def RetID (w : World) (l : List UInt8) (e : Ending) (w' : World) : Prop := e = .returned (.agg (cellsB l).toArray) /\ Below w.heap.size w w'
theorem builtBlk : Tryz.prog.built 252 [] = some (cellsB (zer 64)).toArray := by kernel_rfl
theorem cellsB_splice (a b : List UInt8) (o : Nat) : splice (cellsB a) o (cellsB b) = cellsB (splice a o b) := by
 unfold splice cellsB
 simp [List.map_take, List.map_drop]
theorem sum_any (g : Nat) (D : List UInt8) (w : World) (h : HashD w g D) (hlen : D.length <= 4294967296) :
 Calls Tryz.prog 157 #[.pointer (some ⟨g, 0, none⟩)] w (RetID w (sumS D)) := by
 have hg := h.lt
 have hd1 : HashD (w.alloc (.cells (cellsB (zer 32)).toArray 56)) g D := h.below ((Below.refl _ _).alloc (Nat.le_refl _) _) hg
 obtain ⟨b, h1, h2⟩ := hd1
 have CN := isNone_live g D.length _ b _ h1 (by omega) (HashD.live (w := w) (g := g))
 have h3 : HashW ((w.alloc (.cells (cellsB (zer 32)).toArray 56)).alloc (.cells (cellsB (zer 64)).toArray 252)) g (mixN D (D.length / 64)) b D.length := h1.kept (Below.heap_alloc _ _ _ h1.lt)
 have c72 := cell_of_row _ g 72 _ 254 (0, 0) h3.1
 rw [List.getElem?_toArray, hashV_size _ _ _ h3.2.1 h3.2.2.2] at c72
 obtain ⟨N, hN⟩ : ∃ N, D.length = N := ⟨_, rfl⟩
 obtain ⟨x, hx⟩ : ∃ x, N % 64 = x := ⟨_, rfl⟩
 have hxT : ((N : Int).tmod 64) = (x : Int) := by rw [Int.tmod_eq_emod_of_nonneg (by omega)]; omega
 have hxl : (x : Int) <= 64 := by omega
 have hx64 : x < 64 := by omega
 have hne : ¬ (64 = x) := by omega
 have hN2 : N <= 4294967296 := by omega
 rw [hN] at c72
 have H1 := lH h1
 have H2 := lH h2
 have H3 := lH h3
 have HN := lH hN
 have HX := lH hx
 have hsz8 : (Tryz.prog.info? 5).map (·.size) = some 1 := by kernel_rfl
 clear h1 h2 h3 hN hx hlen h
 go_enter Tryz.func157, Tryz.ntmps157
 go_wp2_with (go_at_call 177; refine CN.mono ?_; rintro e w1 ⟨rfl, rfl⟩)
 generalize hW1 : World.alloc (World.alloc _ _) _ = W1
 have B1 : Below w.heap.size w W1 := by rw [<- hW1]; exact ((Below.refl _ _).alloc (Nat.le_refl _) _).alloc (by simp) _
 have R0 : Bw W1 w.heap.size 56 (zer 32) := by rw [<- hW1]; exact (Bw.new w _ _).alloc _
 have R1 : Bw W1 (w.heap.size + 1) 252 (zer 64) := by
  have e : (w.alloc (.cells (cellsB (zer 32)).toArray 56)).heap.size = w.heap.size + 1 := by simp
  rw [<- hW1, <- e]
  exact Bw.new (w.alloc (.cells (cellsB (zer 32)).toArray 56)) (zer 64) 252
 have HH : HashW W1 g (mixN D (D.length / 64)) b D.length := by rw [<- hW1]; exact H3.out
 have C72 : W1.cell? ⟨g, 72, none⟩ = some (.int .u64 (N : Int)) := by rw [<- hW1]; exact c72
 have hbl := HH.2.2.2
 have hRl : (b.take x).length = x := by rw [List.length_take]; omega
 have hRD : b.take x = D.drop (64 * (D.length / 64)) := by rw [<- HX.out, <- HN.out]; exact H2.out
 have hcsl : (cellsB (b.take x)).length = x := by rw [cellsB_length]; exact hRl
 have hcsrc : ∀ j v, (cellsB (b.take x))[j]? = some v -> W1.cell? ((⟨g, 8, none⟩ : Addr).add j) = some v := by
  intro j v hv
  obtain ⟨y, hy, rfl⟩ := cellsB_at hv
  rw [Addr.add_lit, cell_of_row _ g (8 + j) _ 254 (0, 0) HH.1, List.getElem?_toArray]
  refine hashV_at _ b _ j y HH.2.1 ?_
  rw [List.getElem?_take] at hy
  split at hy
  · exact hy
  · cases hy
 have hmn : x = Nat.min x 64 := (Nat.min_eq_left (by omega)).symm
 have hfit : 0 + x <= (cellsB (zer 64)).length := by rw [cellsB_length, zer_len]; omega
 have h1c := cellsB_one (b.take x)
 have hsp := cellsB_splice (zer 64) (b.take x) 0
 obtain ⟨R, hR⟩ : ∃ R, b.take x = R := ⟨_, rfl⟩
 rw [hR] at hRl hRD hcsl hcsrc h1c hsp
 obtain ⟨st, hst⟩ : ∃ st, mixN D (D.length / 64) = st := ⟨_, rfl⟩
 rw [hst, HN.out] at HH
 obtain ⟨X, hX⟩ : ∃ X, cellsB R = X := ⟨_, rfl⟩
 rw [hX] at hcsl hcsrc h1c hsp
 have hfin1 : x < 56 -> outB (comp st (lenN (lastB R) (N * 8) 8)) = sumS D := by
  intro hlt
  have := sum1 D (by rw [HN.out, HX.out]; exact hlt)
  rw [hst, <- hRD, HN.out] at this
  exact this
 have hfin2 : 56 <= x -> outB (comp (comp st (lastB R)) (lenN (zer 64) (N * 8) 8)) = sumS D := by
  intro hge
  have := sum2 D (by rw [HN.out, HX.out]; exact hge)
  rw [hst, <- hRD, HN.out] at this
  exact this
 have BB1 := lH B1
 have RR0 := lH R0
 have RR1 := lH R1
 have HHH := lH HH
 have HRL := lH hRl
 have HCL := lH hcsl
 have HCS := lH hcsrc
 have HMN := lH hmn
 have HF := lH hfit
 have H1C := lH h1c
 have HSP := lH hsp
 have HF1 := lH hfin1
 have HF2 := lH hfin2
 have HG := lH hg
 clear B1 R0 R1 HH hRl hRD hcsl hcsrc hmn hfit h1c hsp hfin1 hfin2 hg hW1 c72 hst hX hR hbl CN
 have hxi : (x : Int) < 64 := by omega
 go_region_law (refine step_copy_row' rfl (.tmp 11) (.tmp 20) 34 34 rfl 5 Tryz.underlying34 hsz8 _ _ _ _ _ _ rfl rfl (w.heap.size + 1) 0 (cellsB (zer 64)) 252 RR1.out X x HCL.out HMN.out (fun _ => ⟨rfl, _, rfl, HCS.out⟩) HF.out H1C.out ?_; intro w2 HG2 hb2)
 have hb2' : W1.grownBy w2 (some (w.heap.size + 1)) := (grown_drew W1 _).trans hb2
 have R2 : Bw w2 (w.heap.size + 1) 252 (splice (zer 64) 0 R) := by
  unfold Bw
  rw [<- HSP.out]
  exact HG2.out
 have R20 : Bw w2 w.heap.size 56 (zer 32) := (hb2'.block _ RR0.out.lt (by simp)).trans RR0.out
 have H20 : HashW w2 g st b N := HHH.out.kept (hb2'.block _ HHH.out.lt (by have := HG.out; intro e; injection e; omega))
 have B2 : Below w.heap.size w w2 := BB1.out.trans ⟨hb2'.os, hb2'.tape, hb2'.output, hb2'.size, fun k hk => hb2'.block k (Nat.lt_of_lt_of_le hk BB1.out.size) (by intro e; injection e; omega)⟩
 have hspl : (splice (zer 64) 0 R).length = 64 := by rw [splice_len _ _ _ (by rw [zer_len, HRL.out]; omega)]; exact zer_len 64
 obtain ⟨z, hz, _⟩ := byte_at (splice (zer 64) 0 R) x (by omega)
 have c2 := R2.cell hz
 have f2 := R2.frozen x
 have RR2 := lH R2
 have RR20 := lH R20
 have HH20 := lH H20
 have BB2 := lH B2
 clear R2 R20 H20 B2 hspl hz hb2 hb2' HG2
 go_upto_region 6 with fail
 generalize hw3 : World.setCell _ _ _ = w3
 have R3 : Bw w3 (w.heap.size + 1) 252 (lastB R) := by
  rw [<- hw3, <- last_of b R x HRL.out hx64]
  exact RR2.out.set_ (x := 128) rfl
 have R30 : Bw w3 w.heap.size 56 (zer 32) := by rw [<- hw3]; exact RR20.out.far (show w.heap.size ≠ w.heap.size + 1 by omega) _
 have H30 : HashW w3 g st b N := by rw [<- hw3]; exact HH20.out.kept (heap_setCell_other w2 ⟨w.heap.size + 1, x, none⟩ g _ (show g ≠ w.heap.size + 1 by have := HG.out; omega))
 have B3 : Below w.heap.size w w3 := by rw [<- hw3]; exact BB2.out.setCell (p := ⟨w.heap.size + 1, x, none⟩) (show w.heap.size <= w.heap.size + 1 by omega) _
 have hs8 := H30.2.1
 have ss := H30.2.2.1
 have hls := load_state hs8 H30.1
 have iv : (Tryz.prog.info? 249).map (·.size) = some (wordsW st).size := by rw [wordsW_size, hs8]; exact infoState
 have c72 := cell_of_row w3 g 72 _ 254 (0, 0) H30.1
 rw [List.getElem?_toArray, hashV_size _ _ _ H30.2.1 H30.2.2.2] at c72
 have HLS := lH hls
 have IV := lH iv
 have HS8 := lH hs8
 have HSS := lH ss
 have RR3 := lH R3
 have RR30 := lH R30
 have HH30 := lH H30
 have BB3 := lH B3
 clear hw3 R3 R30 H30 B3 hs8 ss hls iv RR2 RR20 HH20 BB2 c2 f2 c72 C72
 go_upto_region 7 with (first
  | (refine wpList_load_rowG rfl 249 (.tmp 26) rfl g rfl (.agg (wordsW st)) HLS.out ?_)
  | (refine wpList_store_row rfl 249 (.tmp 5) (.tmp 27) rfl w3.heap.size (wordsW st) rfl rfl 249 _ (heap_alloc_new w3 _) IV.out (by rw [wordsW_size, HS8.out]; rfl) (wordsW_one _) ?_))
 generalize hw4 : World.setRow _ _ _ = w4
 have S4 : SumR w w4 w3.heap.size (lastB R) st := by
  rw [<- hw4]
  exact ⟨(RR30.out.alloc _).rowFar (by have := RR30.out.lt; omega) _, (RR3.out.alloc _).rowFar (by have := RR3.out.lt; omega) _, setRow_heap _ _ _ _ 249 _ (heap_alloc_new w3 _), RR3.out.lt, below_setRow (BB3.out.alloc BB3.out.size _) BB3.out.size _⟩
 have H40 : HashW w4 g st b N := by
  rw [<- hw4]
  exact HH30.out.kept ((setRow_other _ _ _ _ (by have := HH30.out.lt; omega)).trans (Below.heap_alloc _ _ _ HH30.out.lt))
 have hlR : (lastB R).length = 64 := lastB_len R (by rw [HRL.out]; exact hx64)
 obtain ⟨S, hS⟩ : ∃ S, w3.heap.size = S := ⟨_, rfl⟩
 rw [hS] at S4
 have SS4 := lH S4
 have HH4 := lH H40
 have HLR := lH hlR
 rw [hS]
 clear hw4 hS S4 H40 hlR RR3 RR30 HH30 BB3 HLS
 by_cases h56 : 56 <= x
 · have HFin : Hid (outB (comp (comp st (lastB R)) (lenN (zer 64) (N * 8) 8)) = sumS D) := lH (HF2.out h56)
   have HB0 : Hid ((zer 64).length = 64) := lH (zer_len 64)
   have HS80 : Hid ((comp st (lastB R)).length = 8) := lH (comp_len _ _ HS8.out)
   have HSS0 : Hid (Small (comp st (lastB R))) := lH (comp_small _ _ HSS.out)
   have h1 := SS4.out.2.1
   have h2 := SS4.out.2.2.1
   have hivb : (Tryz.prog.info? 252).map (·.size) = some (cellsB (lastB R)).toArray.size := by rw [cellsB_size, HLR.out]; exact infoBlock
   have hivz : (Tryz.prog.info? 252).map (·.size) = some (cellsB (zer 64)).toArray.size := by rw [cellsB_size, zer_len]; exact infoBlock
   have hivs : (Tryz.prog.info? 249).map (·.size) = some (wordsW (comp st (lastB R))).size := by rw [wordsW_size, HS80.out]; exact infoState
   have hzs : (wordsW st).size = (wordsW (comp st (lastB R))).size := by rw [wordsW_size, wordsW_size, HS80.out, HS8.out]
   have hzb : (cellsB (lastB R)).toArray.size = (cellsB (zer 64)).toArray.size := by rw [cellsB_size, cellsB_size, HLR.out, zer_len]
   have H1 := lH h1
   have H2 := lH h2
   have HIB := lH hivb
   have HIZ := lH hivz
   have HIS := lH hivs
   have HZS := lH hzs
   have HZB := lH hzb
   clear h1 h2 hivb hivz hivs hzs hzb
   go_upto_region 10 with (first
    | (refine wpList_load_row rfl 249 (.tmp 5) rfl S rfl 249 (wordsW st) (0, 0) _ H2.out Tryz.underlying249 rfl IV.out ?_)
    | (refine wpList_load_row rfl 252 (.tmp 3) rfl (w.heap.size + 1) rfl 252 (cellsB (lastB R)).toArray (0, 0) _ H1.out Tryz.underlying252 rfl HIB.out ?_)
    | (go_at_call 178; refine (mix_any st (lastB R) _ HS8.out HSS.out HLR.out).mono ?_; rintro e w7 ⟨rfl, hb7⟩
       have R7 := SS4.out.below hb7
       have H7 : HashW w7 g st b N := HH4.out.kept (hb7.block _ HH4.out.lt)
       have R72 := lH R7.2.2.1
       have R7b := lH (Bw.rowFar R7.2.1 (show w.heap.size + 1 ≠ S by have := R7.2.2.2.1; omega) (wordsW (comp st (lastB R))))
       have RR7 := lH R7
       have HH7 := lH H7
       clear R7 hb7 H7)
    | (refine wpList_buildG rfl 252 rfl (cellsB (zer 64)).toArray builtBlk ?_)
    | (refine wpList_store_row rfl 249 (.tmp 5) (.tmp 32) rfl S (wordsW (comp st (lastB R))) rfl rfl 249 _ R72.out HIS.out HZS.out (wordsW_one _) ?_)
    | (refine wpList_store_row rfl 252 (.tmp 3) (.tmp 33) rfl (w.heap.size + 1) (cellsB (zer 64)).toArray rfl rfl 252 _ R7b.out HIZ.out HZB.out (cellsB_ones _) ?_))
   generalize hw5 : World.setRow (World.setRow _ _ _) _ _ = w5
   have S5 : SumR w w5 S (zer 64) (comp st (lastB R)) := by rw [<- hw5]; exact RR7.out.putS.putB
   have H5 : HashW w5 g st b N := by
    rw [<- hw5]
    exact HH7.out.kept ((setRow_other _ _ _ _ (by have := HG.out; omega)).trans (setRow_other _ _ _ _ (by have := HG.out; have := RR7.out.2.2.2.1; omega)))
   generalize comp st (lastB R) = s0 at *
   generalize hB0 : zer 64 = B0 at HFin HB0 S5
   have SS5 := lH S5
   have HH5 := lH H5
   clear S5 H5 hw5 hB0 H1 H2 HIB HIZ HIS HZS HZB R72 R7b RR7 HH7
   have c72 := cell_of_row w5 g 72 _ 254 (0, 0) HH5.out.1
   rw [List.getElem?_toArray, hashV_size _ _ _ HH5.out.2.1 HH5.out.2.2.2] at c72
   go_wp2_with fail
   go_loopw [39] (fun i wr => ∃ j : Nat, j <= 8 /\ i = .int .i64 (j : Int) /\ SumR w wr S (lenN B0 (N * 8) j) s0) (fun i _ => 8 - (intOf i).toNat)
   case atStart => exact ⟨0, by omega, rfl, by rw [lenN_zero]; exact SS5.out⟩
   case round =>
    obtain ⟨j, hj, rfl, hR⟩ := hrel
    by_cases hlt : j < 8
    · obtain ⟨z, hz, _⟩ := byte_at (lenN B0 (N * 8) j) (56 + j) (by rw [lenN_len _ _ _ HB0.out hj]; omega)
      have c5 := hR.2.1.cell hz
      have f5 := hR.2.1.frozen (56 + j)
      have HR := lH hR
      have g4 : (0 : Int) <= 7 - (j : Int) := by omega
      have g5 : (0 : Int) <= 8 * (7 - (j : Int)) := by omega
      have g6 : (8 * (7 - (j : Int))).toNat = 8 * (7 - j) := by omega
      have g7 : (j : Int) <= 7 := by omega
      have g8 : (56 : Int) + (j : Int) < 64 := by omega
      clear hz hR
      go_wp2_with fail
      go_roundw
      case rel =>
       refine ⟨j + 1, by omega, by go_num, ?_⟩
       rw [<- lenN_set B0 (N * 8) j HB0.out hlt]
       exact HR.out.put (by unfold lenAt; rw [UInt8.toNat_ofNat']; simp)
      case measure => simp [intOf]; omega
    · obtain rfl : j = 8 := by omega
      have hl8 : (lenN B0 (N * 8) 8).length = 64 := lenN_len _ _ _ HB0.out (by omega)
      obtain ⟨B9, hB9⟩ : ∃ B9, lenN B0 (N * 8) 8 = B9 := ⟨_, rfl⟩
      have hfin := HFin.out
      rw [hB9] at hR hl8 hfin
      have hiv : (Tryz.prog.info? 252).map (·.size) = some (cellsB B9).toArray.size := by rw [cellsB_size, hl8]; exact infoBlock
      have hiv2 : (Tryz.prog.info? 249).map (·.size) = some (wordsW s0).size := by rw [wordsW_size, HS80.out]; exact infoState
      have hcl := comp_len s0 B9 HS80.out
      have hcs := comp_small s0 B9 HSS0.out
      have hiv3 : (Tryz.prog.info? 56).map (·.size) = some (cellsB (sumS D)).toArray.size := by rw [cellsB_size, sum_len]; exact infoID
      have hz3 : (cellsB (zer 32)).toArray.size = (cellsB (sumS D)).toArray.size := by rw [cellsB_size, cellsB_size, sum_len, zer_len]
      have HR := lH hR
      have h1 := hR.2.1
      have h2 := hR.2.2.1
      have H1 := lH h1
      have H2 := lH h2
      have HL8 := lH hl8
      have HFN := lH hfin
      have HIV := lH hiv
      have HIV2 := lH hiv2
      have HCL2 := lH hcl
      have HCS2 := lH hcs
      have HIV3 := lH hiv3
      have HZ3 := lH hz3
      clear hR h1 h2 hl8 hfin hiv hiv2 hcl hcs hiv3 hz3 hB9
      go_wp2_with (first
       | (refine wpList_load_row rfl 249 (.tmp 5) rfl S rfl 249 (wordsW s0) (0, 0) _ H2.out Tryz.underlying249 rfl HIV2.out ?_)
       | (refine wpList_load_row rfl 252 (.tmp 3) rfl (w.heap.size + 1) rfl 252 (cellsB B9).toArray (0, 0) _ H1.out Tryz.underlying252 rfl HIV.out ?_)
       | (go_at_call 178; refine (mix_any s0 B9 _ HS80.out HSS0.out HL8.out).mono ?_; rintro e w7 ⟨rfl, hb7⟩
          have R7 := HR.out.below hb7
          have RR7 := lH R7
          clear R7 hb7)
       | (go_at_call 179; refine (bytes_any (comp s0 B9) _ HCL2.out HCS2.out).mono ?_; rintro e w8 ⟨rfl, hb8⟩
          rw [HFN.out]
          have R8 := RR7.out.below hb8
          have RR8 := lH R8
          have R80 := lH R8.1
          clear R8 hb8)
       | (refine wpList_store_row rfl 56 (.tmp 2) (.tmp 55) rfl w.heap.size (cellsB (sumS D)).toArray rfl rfl 56 _ R80.out HIV3.out HZ3.out (cellsB_ones _) ?_))
      refine bodyPost_ret (v := .agg (cellsB (sumS D)).toArray) ?_ (by rfl) ?_
      · exact results_cell_row (p := 2) (ty := 56) rfl _ _ w.heap.size 56 (cellsB (sumS D)).toArray _ _ rfl (setRow_heap _ _ _ _ 56 _ R80.out) Tryz.underlying56 rfl HIV3.out
      · exact ⟨rfl, below_setRow RR8.out.2.2.2.2 (Nat.le_refl _) _⟩
 · have HFin : Hid (outB (comp st (lenN (lastB R) (N * 8) 8)) = sumS D) := lH (HF1.out (by omega))
   generalize hB0 : lastB R = B0 at HFin HLR SS4
   have HB0 := HLR
   have HS80 := HS8
   have HSS0 := HSS
   generalize hs0 : st = s0 at HFin HS80 HSS0 SS4
   generalize hw5 : w4 = w5 at SS4 HH4 ⊢
   have SS5 := SS4
   have HH5 := HH4
   clear hB0 SS4 HH4 hs0 hw5
   have c72 := cell_of_row w5 g 72 _ 254 (0, 0) HH5.out.1
   rw [List.getElem?_toArray, hashV_size _ _ _ HH5.out.2.1 HH5.out.2.2.2] at c72
   go_wp2_with fail
   go_loopw [39] (fun i wr => ∃ j : Nat, j <= 8 /\ i = .int .i64 (j : Int) /\ SumR w wr S (lenN B0 (N * 8) j) s0) (fun i _ => 8 - (intOf i).toNat)
   case atStart => exact ⟨0, by omega, rfl, by rw [lenN_zero]; exact SS5.out⟩
   case round =>
    obtain ⟨j, hj, rfl, hR⟩ := hrel
    by_cases hlt : j < 8
    · obtain ⟨z, hz, _⟩ := byte_at (lenN B0 (N * 8) j) (56 + j) (by rw [lenN_len _ _ _ HB0.out hj]; omega)
      have c5 := hR.2.1.cell hz
      have f5 := hR.2.1.frozen (56 + j)
      have HR := lH hR
      have g4 : (0 : Int) <= 7 - (j : Int) := by omega
      have g5 : (0 : Int) <= 8 * (7 - (j : Int)) := by omega
      have g6 : (8 * (7 - (j : Int))).toNat = 8 * (7 - j) := by omega
      have g7 : (j : Int) <= 7 := by omega
      have g8 : (56 : Int) + (j : Int) < 64 := by omega
      clear hz hR
      go_wp2_with fail
      go_roundw
      case rel =>
       refine ⟨j + 1, by omega, by go_num, ?_⟩
       rw [<- lenN_set B0 (N * 8) j HB0.out hlt]
       exact HR.out.put (by unfold lenAt; rw [UInt8.toNat_ofNat']; simp)
      case measure => simp [intOf]; omega
    · obtain rfl : j = 8 := by omega
      have hl8 : (lenN B0 (N * 8) 8).length = 64 := lenN_len _ _ _ HB0.out (by omega)
      obtain ⟨B9, hB9⟩ : ∃ B9, lenN B0 (N * 8) 8 = B9 := ⟨_, rfl⟩
      have hfin := HFin.out
      rw [hB9] at hR hl8 hfin
      have hiv : (Tryz.prog.info? 252).map (·.size) = some (cellsB B9).toArray.size := by rw [cellsB_size, hl8]; exact infoBlock
      have hiv2 : (Tryz.prog.info? 249).map (·.size) = some (wordsW s0).size := by rw [wordsW_size, HS80.out]; exact infoState
      have hcl := comp_len s0 B9 HS80.out
      have hcs := comp_small s0 B9 HSS0.out
      have hiv3 : (Tryz.prog.info? 56).map (·.size) = some (cellsB (sumS D)).toArray.size := by rw [cellsB_size, sum_len]; exact infoID
      have hz3 : (cellsB (zer 32)).toArray.size = (cellsB (sumS D)).toArray.size := by rw [cellsB_size, cellsB_size, sum_len, zer_len]
      have HR := lH hR
      have h1 := hR.2.1
      have h2 := hR.2.2.1
      have H1 := lH h1
      have H2 := lH h2
      have HL8 := lH hl8
      have HFN := lH hfin
      have HIV := lH hiv
      have HIV2 := lH hiv2
      have HCL2 := lH hcl
      have HCS2 := lH hcs
      have HIV3 := lH hiv3
      have HZ3 := lH hz3
      clear hR h1 h2 hl8 hfin hiv hiv2 hcl hcs hiv3 hz3 hB9
      go_wp2_with (first
       | (refine wpList_load_row rfl 249 (.tmp 5) rfl S rfl 249 (wordsW s0) (0, 0) _ H2.out Tryz.underlying249 rfl HIV2.out ?_)
       | (refine wpList_load_row rfl 252 (.tmp 3) rfl (w.heap.size + 1) rfl 252 (cellsB B9).toArray (0, 0) _ H1.out Tryz.underlying252 rfl HIV.out ?_)
       | (go_at_call 178; refine (mix_any s0 B9 _ HS80.out HSS0.out HL8.out).mono ?_; rintro e w7 ⟨rfl, hb7⟩
          have R7 := HR.out.below hb7
          have RR7 := lH R7
          clear R7 hb7)
       | (go_at_call 179; refine (bytes_any (comp s0 B9) _ HCL2.out HCS2.out).mono ?_; rintro e w8 ⟨rfl, hb8⟩
          rw [HFN.out]
          have R8 := RR7.out.below hb8
          have RR8 := lH R8
          have R80 := lH R8.1
          clear R8 hb8)
       | (refine wpList_store_row rfl 56 (.tmp 2) (.tmp 55) rfl w.heap.size (cellsB (sumS D)).toArray rfl rfl 56 _ R80.out HIV3.out HZ3.out (cellsB_ones _) ?_))
      refine bodyPost_ret (v := .agg (cellsB (sumS D)).toArray) ?_ (by rfl) ?_
      · exact results_cell_row (p := 2) (ty := 56) rfl _ _ w.heap.size 56 (cellsB (sumS D)).toArray _ _ rfl (setRow_heap _ _ _ _ 56 _ R80.out) Tryz.underlying56 rfl HIV3.out
      · exact ⟨rfl, below_setRow RR8.out.2.2.2.2 (Nat.le_refl _) _⟩
def HasBB (w : World) (B : Nat) (A : Option Addr) (n : Nat) (ls : List (List UInt8)) : Prop :=
 n = ls.length /\ (0 < n -> ∃ k o, A = some ⟨k, o, none⟩ /\ k < B /\ ∀ i l, ls[i]? = some l -> ∃ Ai ni ci, w.cell? ⟨k, o + i, none⟩ = some (.slice Ai ni ci) /\ ni <= ci /\ HasB w B Ai ni l)
theorem HasBB.below {w w' : World} {B n : Nat} {A : Option Addr} {ls : List (List UInt8)} (h : HasBB w B A n ls) (hb : Below B w w') : HasBB w' B A n ls :=
 ⟨h.1, fun hn => by
  obtain ⟨k, o, e, hk, hc⟩ := h.2 hn
  refine ⟨k, o, e, hk, fun i l hi => ?_⟩
  obtain ⟨Ai, ni, ci, h1, h2, h3⟩ := hc i l hi
  exact ⟨Ai, ni, ci, (hb.cell (p := ⟨k, o + i, none⟩) hk).trans h1, h2, h3.below hb⟩⟩
theorem HasBB.more {w : World} {B B' n : Nat} {A : Option Addr} {ls : List (List UInt8)} (h : HasBB w B A n ls) (hB : B <= B') : HasBB w B' A n ls :=
 ⟨h.1, fun hn => by
  obtain ⟨k, o, e, hk, hc⟩ := h.2 hn
  refine ⟨k, o, e, by omega, fun i l hi => ?_⟩
  obtain ⟨Ai, ni, ci, h1, h2, h3⟩ := hc i l hi
  exact ⟨Ai, ni, ci, h1, h2, h3.more hB⟩⟩
theorem HasBB.on {w w' : World} {n : Nat} {A : Option Addr} {ls : List (List UInt8)} (h : HasBB w w.heap.size A n ls) (hb : Below w.heap.size w w') : HasBB w' w'.heap.size A n ls := (h.below hb).more hb.size
theorem flat_lenS (ls : List (List UInt8)) (k : Nat) : (ls.take k).flatten.length <= ls.flatten.length := by
 conv => rhs; rw [<- List.take_append_drop k ls, List.flatten_append, List.length_append]
 omega
theorem flat_snoc (ls : List (List UInt8)) (k : Nat) (l : List UInt8) (h : ls[k]? = some l) : (ls.take (k + 1)).flatten = (ls.take k).flatten ++ l := by
 obtain ⟨hk, rfl⟩ := List.getElem?_eq_some_iff.1 h
 rw [List.take_succ_eq_append_getElem hk, List.flatten_append]
 simp
theorem of_any (A : Option Addr) (n c : Nat) (ls : List (List UInt8)) (w : World) (h : HasBB w w.heap.size A n ls) (hn : n <= 1073741824) (hlen : ls.flatten.length <= 4294967296) :
 Calls Tryz.prog 132 #[.slice A n c] w (RetID w (sumS ls.flatten)) := by
 have HS := lH h
 have HN := lH h.1
 clear h
 go_enter Tryz.func132, Tryz.ntmps132
 go_wp2_with (first
  | (go_at_call 155; refine (new_any _).mono ?_; rintro e w1 ⟨g, rfl, hg, hd, hb⟩
     have hg2 : w.heap.size < g := by simp at hg; omega
     have hw1 : Below w.heap.size w w1 := ((Below.refl _ _).alloc (Nat.le_refl _) _).trans (hb.mono (by simp))
     have hz : Bw w1 w.heap.size 56 (zer 32) := (hb.block _ (by simp)).trans (heap_alloc_new w _)
     have HD := lH hd
     have HB := lH hw1
     have HZ := lH hz
     clear hg hb hd hw1 hz))
 go_loopw [9] (fun i wr => ∃ k : Nat, k <= n /\ i = .int .i64 (k : Int) /\ HashD wr g (ls.take k).flatten /\ Bw wr w.heap.size 56 (zer 32) /\ Below w.heap.size w wr) (fun i _ => n - (intOf i).toNat)
 case atStart => exact ⟨0, by omega, rfl, HD.out, HZ.out, HB.out⟩
 case round =>
  obtain ⟨k, hk, rfl, hD, hZ, hbel⟩ := hrel
  by_cases hlt : k < n
  · obtain ⟨l, hl⟩ : ∃ l, ls[k]? = some l := ⟨_, List.getElem?_eq_getElem (by rw [<- HN.out]; exact hlt)⟩
    obtain ⟨k0, o0, rfl, hk0, hc0⟩ := HS.out.2 (by omega)
    obtain ⟨Ai, ni, ci, hcell, hni, hhas⟩ := hc0 k l hl
    have hcw : wr.cell? ⟨k0, o0 + k, none⟩ = some (.slice Ai ni ci) := (hbel.cell (p := ⟨k0, o0 + k, none⟩) hk0).trans hcell
    have hsrc : Src wr g Ai ni l := Src.of_below (hhas.below hbel) (by omega) hD.lt
    have hsn := flat_snoc ls k l hl
    have hll : (ls.take k).flatten.length + l.length <= 4294967296 := by
     have := flat_lenS ls (k + 1)
     rw [hsn, List.length_append] at this
     omega
    have CW := write_any g ni ci (ls.take k).flatten l Ai wr hD hsrc hni hll
    rw [<- hsn] at CW
    have HSN := lH hsn
    have HZ2 := lH hZ
    have HB2 := lH hbel
    clear hl hc0 hcell hhas hsn hsrc hD hZ hbel hll
    go_wp2_with (first
     | (go_at_call 156; refine CW.mono ?_; rintro e w2 ⟨rfl, hd2, hg2'⟩
        have HD2 := lH hd2
        have HG2 := lH hg2'
        clear hd2 hg2'))
    go_roundw
    case rel => exact ⟨k + 1, by omega, by go_num, HD2.out, (HG2.out.block _ HZ2.out.lt (by intro e; injection e; omega)).trans HZ2.out, below_row HB2.out HG2.out (by omega) HB2.out.size⟩
    case measure => simp [intOf]; omega
  · obtain rfl : k = n := by omega
    have CS := sum_any g (ls.take k).flatten wr hD (Nat.le_trans (flat_lenS ls k) hlen)
    rw [List.take_of_length_le (by rw [<- HN.out]; exact Nat.le_refl _)] at CS
    have HZ2 := lH hZ
    have HB2 := lH hbel
    have hiv : (Tryz.prog.info? 56).map (·.size) = some (cellsB (sumS ls.flatten)).toArray.size := by rw [cellsB_size, sum_len]; exact infoID
    have hz3 : (cellsB (zer 32)).toArray.size = (cellsB (sumS ls.flatten)).toArray.size := by rw [cellsB_size, cellsB_size, sum_len, zer_len]
    have HIV := lH hiv
    have HZ3 := lH hz3
    clear hD hZ hbel hiv hz3
    go_wp2_with (first
     | (go_at_call 157; refine CS.mono ?_; rintro e w2 ⟨rfl, hb2⟩
        have hz2 : Bw w2 w.heap.size 56 (zer 32) := HZ2.out.below hb2 HZ2.out.lt
        have HZ4 := lH hz2
        have HB4 := lH hb2
        clear hz2 hb2)
     | (refine wpList_store_row rfl 56 (.tmp 2) (.tmp 18) rfl w.heap.size (cellsB (sumS ls.flatten)).toArray rfl rfl 56 _ HZ4.out HIV.out HZ3.out (cellsB_ones _) ?_))
    refine bodyPost_ret (v := .agg (cellsB (sumS ls.flatten)).toArray) ?_ (by rfl) ?_
    · exact results_cell_row (p := 2) (ty := 56) rfl _ _ w.heap.size 56 (cellsB (sumS ls.flatten)).toArray _ _ rfl (setRow_heap _ _ _ _ 56 _ HZ4.out) Tryz.underlying56 rfl HIV.out
    · exact ⟨rfl, below_setRow (HB2.out.trans (HB4.out.mono HB2.out.size)) (Nat.le_refl _) _⟩
theorem bclone_any (A : Option Addr) (n c : Nat) (l : List UInt8) (w : World) (h : HasB w w.heap.size A n l) (hn : n <= 1073741824) :
 Calls Tryz.prog 100 #[.slice A n c] w (RetB w l) := by
 have hl := h.len
 have qS : ∀ (w : World) (a : Option Addr) (n c n' c' : Nat), (binOp .eql 34 (.slice a n c) (.slice none n' c')).run Tryz.prog w = .ok (.bool a.isNone) w := fun w a n c n' c' => Lib.run_eql_slice_nil w _ _ a n c n' c' Tryz.underlying34
 cases A with
 | none =>
   have h0 : ¬ 0 < n := fun hp => by obtain ⟨g, o, e, _⟩ := h.2 hp; cases e
   have hnil : l = [] := List.eq_nil_of_length_eq_zero (by omega)
   subst hnil
   clear h
   go_enter Tryz.func100, Tryz.ntmps100
   go_wp2_with fail
   go_ret
   exact ⟨_, _, _, rfl, OwnB.nil _ _, Below.refl _ _⟩
 | some ad =>
   have H := lH h
   have HL := lH hl
   clear h hl
   go_enter Tryz.func100, Tryz.ntmps100
   go_wp2_with (at_builtin; refine wp_app rfl (.tmp 5) (.tmp 6) rfl Tryz.underlying34 infoU8 w.heap.size _ [] l rfl (OwnB.empty w) w.heap.size (some ad) n c rfl (H.out.alloc (Nat.le_refl _) _) (by rw [<- HL.out]; simp; omega) (by simp) ?_; intro A2 n2 c2 w2 hown2 hg2 hb2)
   go_ret
   exact ⟨_, _, _, rfl, hown2, ((Below.refl _ w).alloc (Nat.le_refl _) _).trans hb2⟩
theorem own_zeros (w : World) (n c : Nat) (hc : c <= maxLen) (cs : Array Value) (hcs : cs.size = c) :
 OwnB (w.drew.alloc (.cells cs 5)) w.heap.size (.slice (some ⟨w.heap.size, 0, none⟩) 0 c) [] := by
 refine ⟨rfl, .inr ⟨w.heap.size, c, cs, rfl, Nat.le_refl _, ?_, Nat.zero_le _, hc, by rw [hcs]; simp, by simp [cellsB]⟩⟩
 exact heap_alloc_new w.drew _
theorem grow_any (n : Nat) (w : World) (h0 : 0 < n) (hn : n <= 70368744177664) :
 Calls Tryz.prog 152 #[.slice none 0 0, .int .i64 (n : Int)] w (RetB w []) := by
 obtain ⟨i0, hi0, hz0, hz1, hz2⟩ := info_parts infoU8
 have hr : ∀ ty, (Builtin.append_ #[34, 3] ty #[.slice none 0 0, .int .i64 (n : Int)]).run Tryz.prog w = .ok (.slice (some ⟨w.heap.size, 0, none⟩) n (grownCap w n 0 5)) (w.drew.alloc (.cells (Builtin.zeroCells (Value.int .u8 0).cells n ++ Builtin.zeroCells (Value.int .u8 0).cells (grownCap w n 0 5 - n)) 5)) :=
  fun ty => Lib.run_append_nil_zeros w _ _ ty _ i0 _ _ _ Tryz.underlying34 Tryz.underlying3 hi0 hz0 n h0 (by omega) (by omega) (by rw [hz2]; omega)
 have hge := grownCap_ge w n 0 5
 have hle := grownCap_le_maxLen w n 0 5 (by simp only [maxLen]; omega)
 obtain ⟨C, hC⟩ : ∃ C, grownCap w n 0 5 = C := ⟨_, rfl⟩
 rw [hC] at hr hge hle
 obtain ⟨cs, hcs⟩ : ∃ cs, Builtin.zeroCells (Value.int .u8 0).cells n ++ Builtin.zeroCells (Value.int .u8 0).cells (C - n) = cs := ⟨_, rfl⟩
 rw [hcs] at hr
 have hsz : cs.size = C := by rw [<- hcs]; simp [Builtin.zeroCells, Value.cells]; omega
 have HR := lH hr
 have OWN := lH (own_zeros w n C hle cs hsz)
 clear hr hC hcs hsz hi0 hz0 hz1 hz2
 go_enter Tryz.func152, Tryz.ntmps152
 go_wp2_with (at_builtin; refine Lib.wpList_append_run _ rfl (.tmp 20) (.tmp 21) _ _ rfl _ _ rfl rfl _ _ (HR.out _) ?_)
 go_ret
 exact ⟨_, _, _, rfl, OWN.out, ((Below.refl _ w).drew).alloc (Nat.le_refl _) _⟩
theorem concat_any (A : Option Addr) (n c : Nat) (ls : List (List UInt8)) (w : World) (h : HasBB w w.heap.size A n ls) (hn : n <= 1073741824) (h0 : 0 < ls.flatten.length) (hlen : ls.flatten.length <= 1073741824) :
 Calls Tryz.prog 122 #[.slice A n c] w (RetB w ls.flatten) := by
 have HS := lH h
 have HN := lH h.1
 have H0 := lH h0
 clear h h0
 go_enter Tryz.func122, Tryz.ntmps122
 go_wp2_with fail
 go_loop [3, 11] (fun s i => ∃ k : Nat, k <= n /\ i = .int .i64 (k : Int) /\ s = .int .i64 (((ls.take k).flatten.length : Nat) : Int)) (fun _ i => n - (intOf i).toNat)
 case atStart => exact ⟨0, by omega, rfl, rfl⟩
 case round =>
  obtain ⟨k, hk, rfl, rfl⟩ := hrel
  have hfl := flat_lenS ls k
  by_cases hlt : k < n
  · obtain ⟨l, hl⟩ : ∃ l, ls[k]? = some l := ⟨_, List.getElem?_eq_getElem (by rw [<- HN.out]; exact hlt)⟩
    obtain ⟨k0, o0, rfl, hk0, hc0⟩ := HS.out.2 (by omega)
    obtain ⟨Ai, ni, ci, hcell, hni, hhas⟩ := hc0 k l hl
    have hsn : (ls.take (k + 1)).flatten.length = (ls.take k).flatten.length + ni := by rw [flat_snoc ls k l hl, List.length_append, hhas.len]
    have hf2 := flat_lenS ls (k + 1)
    rw [hsn] at hf2
    have HSN := lH hsn
    clear hl hc0 hhas hsn
    generalize (ls.take k).flatten.length = F at *
    go_wp2_with fail
    go_round
    case rel => exact ⟨k + 1, by omega, by go_num, by rw [HSN.out]; go_num⟩
    case measure => simp [intOf]; omega
  · obtain rfl : k = n := by omega
    have hT : (ls.take k).flatten.length = ls.flatten.length := by rw [List.take_of_length_le (by rw [<- HN.out]; exact Nat.le_refl _)]
    rw [hT]
    have GR := lH (grow_any ls.flatten.length w H0.out (by omega))
    obtain ⟨F, hF⟩ : ∃ F, ls.flatten.length = F := ⟨_, rfl⟩
    rw [hF] at GR hlen ⊢
    have HLF := lH hF
    clear hT hfl hF
    go_wp2_with (first
     | (go_at_call 152; refine GR.out.mono ?_; rintro e w1 ⟨A1, n1, c1, rfl, o1, b1⟩
        have O1 := lH o1
        have B1 := lH b1
        clear o1 b1))
    go_loopw [6, 27] (fun s i wr => ∃ (k2 : Nat) (A2 : Option Addr) (n2 c2 : Nat), k2 <= k /\ i = .int .i64 (k2 : Int) /\ s = .slice A2 n2 c2 /\ OwnB wr w.heap.size (.slice A2 n2 c2) (ls.take k2).flatten /\ Below w.heap.size w wr) (fun _ i _ => k - (intOf i).toNat)
    case atStart => exact ⟨0, A1, n1, c1, by omega, rfl, rfl, O1.out, B1.out⟩
    case round =>
     obtain ⟨k2, A2, n2, c2, hk2, rfl, rfl, own2, bel2⟩ := hrel
     by_cases hlt : k2 < k
     · obtain ⟨l, hl⟩ : ∃ l, ls[k2]? = some l := ⟨_, List.getElem?_eq_getElem (by rw [<- HN.out]; exact hlt)⟩
       obtain ⟨k0, o0, rfl, hk0, hc0⟩ := HS.out.2 (by omega)
       obtain ⟨Ai, ni, ci, hcell, hni, hhas⟩ := hc0 k2 l hl
       have hcw : wr.cell? ⟨k0, o0 + k2, none⟩ = some (.slice Ai ni ci) := (bel2.cell (p := ⟨k0, o0 + k2, none⟩) hk0).trans hcell
       have hsn := flat_snoc ls k2 l hl
       have hf2 := flat_lenS ls (k2 + 1)
       rw [hsn, List.length_append] at hf2
       have HSN := lH hsn
       have OW := lH own2
       have HH := lH (hhas.below bel2)
       have BL := lH bel2
       have HF2 := lH hf2
       have hBs := bel2.size
       clear hl hc0 hcell hhas hsn own2 bel2 hf2
       go_wp2_with (first
        | (at_builtin; refine wp_app rfl _ _ rfl Tryz.underlying34 infoU8 w.heap.size _ _ l rfl OW.out w.heap.size Ai ni ci rfl HH.out (by have := HF2.out; have := HLF.out; omega) hBs ?_; intro A3 n3 c3 w3 hown3 hg3 hb3
           have O3 := lH hown3
           have B3 := lH (BL.out.trans hb3)
           clear hown3 hg3 hb3))
       go_roundw
       case rel => exact ⟨k2 + 1, _, _, _, by omega, by go_num, rfl, by rw [HSN.out]; exact O3.out, B3.out⟩
       case measure => simp [intOf]; omega
     · obtain rfl : k2 = k := by omega
       rw [List.take_of_length_le (by rw [<- HN.out]; exact Nat.le_refl _)] at own2
       go_wp2_with fail
       go_ret
       exact ⟨_, _, _, rfl, own2, bel2⟩
theorem has_two {W : World} {A B : Option Addr} {n m c d : Nat} {a b : List UInt8} (ha : HasB W W.heap.size A n a) (hb : HasB W W.heap.size B m b) (hc : n <= c) (hd : m <= d) :
 HasBB (W.alloc (.cells #[.slice A n c, .slice B m d] 34)) (W.alloc (.cells #[.slice A n c, .slice B m d] 34)).heap.size (some ⟨W.heap.size, 0, none⟩) 2 [a, b] := by
 refine ⟨rfl, fun _ => ⟨W.heap.size, 0, rfl, by simp, fun i l hi => ?_⟩⟩
 have hrow := heap_alloc_new W (.cells #[.slice A n c, .slice B m d] 34)
 rcases i with _ | _ | i
 · simp only [List.getElem?_cons_zero, Option.some.injEq] at hi
   subst hi
   exact ⟨A, n, c, by rw [cell_of_row _ _ _ _ _ _ hrow]; rfl, hc, (ha.alloc (Nat.le_refl _) _).more (by simp)⟩
 · simp only [List.getElem?_cons_succ, List.getElem?_cons_zero, Option.some.injEq] at hi
   subst hi
   exact ⟨B, m, d, by rw [cell_of_row _ _ _ _ _ _ hrow]; rfl, hd, (hb.alloc (Nat.le_refl _) _).more (by simp)⟩
 · simp at hi
end Go.Proofs.YthoebjekkfhhgaaGreat
