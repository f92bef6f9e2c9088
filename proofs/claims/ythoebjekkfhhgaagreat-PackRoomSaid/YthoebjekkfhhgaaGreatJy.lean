/-
  Own work.
-/
import Derived.Test.YthoebjekkfhhgaaGreatCp9
import Derived.Test.YthoebjekkfhhgaaGreatJ2
import Derived.Test.YthoebjekkfhhgaaGreatG5
set_option linter.unusedVariables false
set_option linter.unusedSimpArgs false
set_option maxRecDepth 100000
set_option maxHeartbeats 8000000
namespace Go.Proofs.YthoebjekkfhhgaaGreat
open Go.RowKit Go.Maps Go.Sort Go.Shelf
def frM (f : List ByteArray) : RM := { newM 32 with wait := f }
theorem frK_wt (f : List ByteArray) (k : Nat) : (frM f).wtK k = frK f k := rfl
section
variable {Z : DK} {w w' W W' : World} {g gd gp n : Nat} {S T : Nat -> Prop} {e : Int} {j : JM} {m : RM} {p : Pt}
theorem jkeys_any (mb : Option Nat) (W : World) : Calls Tryz.prog 113 #[.map mb] W fun e w' => e = .returned (.func (.func 146) #[] #[.pointer (some ⟨W.heap.size, 0, none⟩)]) /\ w' = W.alloc (.cells #[.map mb] 140) :=
 callsIn_wide.1 (AnyZI.keys_in keysJ Fence.wide 5 trivial rfl mb W)
theorem jsorted_any (h : JO w g gd gp n e j) :
 Calls Tryz.prog 79 #[.func (.func 146) #[] #[.pointer (some ⟨w.heap.size, 0, none⟩)]] (w.alloc (.cells #[.map (some gp)] 140)) (fun e w' => RetI w (frK j.fresh (j.homes n)) e w') := by
 obtain ⟨D, hm, hD⟩ := h.map
 have hbl := hm.lt
 have hsz := hm.size_le
 have hus := h.ok.us
 have hseq : SeqGives Fence.wide 2 Tryz.prog 146 #[.pointer (some ⟨w.heap.size, 0, none⟩)] encZ (fun ss => ss.Perm (intKeys D)) (Maps.size D) (w.alloc (.cells #[.map (some gp)] 140)) :=
  AnyZI.keys_gives (ρ := keysJ_ren) { keysJ with } Fence.wide _ trivial rfl (by omega) w.heap.size gp j.used D _ (by simp) (by simp) (by
   obtain ⟨es, clock, hb, Ft, hs, hD⟩ := hm
   exact ⟨es, clock, (Below.heap_alloc _ _ gp hbl).trans hb, Ft, hs, hD⟩)
 have cS := AnyZI.sorted_in sorted40 Fence.wide 5 trivial trivial trivial trivial rfl (by omega) (sorts40 _) (enters_of Tryz.func120 (by kernel_rfl) rfl) 146 #[.pointer (some ⟨w.heap.size, 0, none⟩)] trivial (enters_of Tryz.func146 (by kernel_rfl) rfl) _ _ (by unfold maxLen; omega) (by omega) _ hseq
 change CallsIn _ _ Tryz.prog 79 _ _ _ at cS
 refine callsIn_wide.1 (cS.mono ?_)
 rintro e w' ⟨v, ss, rfl, hS, hrow, hnil, hb⟩
 obtain ⟨es, hDe, hp, hk⟩ := hm.entries intK
 have hP : ss.Perm (((frM j.fresh).wtK (j.homes n)).map fun (i : Nat) => (i : Int)) := hS.trans (MapOf.keys (m := frM j.fresh) hD hDe hp hk).symm
 rw [frK_wt] at hP
 have hlen : ss.length = (frK j.fresh (j.homes n)).length := by rw [hP.length_eq, List.length_map]
 have hsort : ss.mergeSort leI = (frK j.fresh (j.homes n)).map fun (i : Nat) => (i : Int) := by rw [mergeSort_of_perm_i hP]; exact RM.wtK_sorted (frM j.fresh) (j.homes n)
 have hrow2 : OwnV 3 w' (w.alloc (.cells #[.map (some gp)] 140)).heap.size v (ints (frK j.fresh (j.homes n))) := by
  unfold OwnV
  have e1 : (ss.mergeSort leI).map encZ = ints (frK j.fresh (j.homes n)) := by
   rw [hsort]
   unfold ints
   rw [List.map_map]
   rfl
  have e2 : (ints (frK j.fresh (j.homes n))).length = ss.length := by unfold ints; rw [List.length_map, hlen]
  rw [e2, <- e1]
  exact hrow
 obtain ⟨A, q, c, rfl⟩ := hrow2.slice
 refine ⟨A, q, c, rfl, ⟨hrow2.1, ?_⟩, ((Below.refl _ w).alloc (Nat.le_refl _) _).trans (hb.mono (by simp))⟩
 rcases hrow2.2 with h2 | ⟨g', c', cur, e, h3, r⟩
 · exact .inl h2
 · exact .inr ⟨g', c', cur, e, by simp at h3; omega, r⟩
theorem JO.size (h : JO w g gd gp n e j) : ∃ D : DU, w.ownsMap Tryz.prog 3 secElem gp j.used D /\ MapOf D (j.homes n) j.fresh /\ Maps.size D = (frK j.fresh (j.homes n)).length := by
 obtain ⟨D, hm, hD⟩ := h.map
 refine ⟨D, hm, hD, ?_⟩
 obtain ⟨es, hDe, hp, hk⟩ := hm.entries intK
 have h1 := (MapOf.keys (m := frM j.fresh) hD hDe hp hk).length_eq
 rw [frK_wt, List.length_map] at h1
 rw [h1, hDe]
 simp [Maps.size, intKeys]
theorem frK_mem {f : List ByteArray} {N i : Nat} (h : i ∈ frK f N) : i < N /\ (f.getD i emp).size ≠ 0 := by
 unfold frK at h
 rw [List.mem_filter, List.mem_range, decide_eq_true_iff] at h
 exact h
theorem zeroJsecI : (Tryz.prog.info? 185).bind (·.zero) = some (.agg (cellsB (zer 512)).toArray) := by kernel_rfl
theorem zeroJsec (w : World) : (zeroValue 185).run Tryz.prog w = .ok (.agg (cellsB (zer 512)).toArray) w := by
 have h := zeroJsecI
 cases hi : Tryz.prog.info? 185 with
 | none => simp [hi] at h
 | some i =>
   simp only [hi, Option.bind_some] at h
   simp [zeroValue, typeInfo, hi, h, Result.andThen]
theorem JO.look (h : JO w g gd gp n e j) (hn : n <= 4096) {i : Nat} (hi : i < j.homes n) (hf : (j.fresh.getD i emp).size ≠ 0) :
 (Instr.lookup 140 (.map (some gp)) (.int .i64 (i : Int)) false).run Tryz.prog w = .ok (.agg (cellsB (lst (j.fresh.getD i emp))).toArray) w := by
 obtain ⟨D, hm, hD⟩ := h.map
 obtain ⟨v, ps, hrun, hv⟩ := hm.lookup intK Tryz.underlying140 (zeroJsec w) (secElem_mk (zer_len 512)) (keyI (i := i) (by have := h.sizeH hn; omega))
 rw [hrun]
 obtain ⟨l, rfl, hl, e⟩ := secElem_inv hv
 rw [hD.at_ i hi hf] at e
 rw [Prod.mk.injEq] at e
 have e1 := e.1
 injection e1 with e1
 injection e1 with e1
 rw [e1]
theorem wp_lenG {ops : Array Oper} {rest : List Oper} {o : Oper} {a : Act} {Q : Exit -> Act -> World -> Prop} (hw : Region.wanted o (yielded ops a.tmps) = true) (mo : Operand) (hop : o.op = Op.call { callee := Callee.builtin Builtin.len, args := #[mo], argTypes := #[140] })
 (hm : a.eval mo = .map (some gp)) (h : JO w g gd gp n e j) (hK : wpList Tryz.prog ops Q rest (a.put o.dst (.int .i64 ((frK j.fresh (j.homes n)).length : Nat))) w) : wpList Tryz.prog ops Q (o :: rest) a w := by
 obtain ⟨D, hmm, hD, hs⟩ := h.size
 refine BigFrame.wpList_want hw fun K' hK' => ?_
 unfold Oper.wp
 simp [execOp, hop, resolve, invoke, builtin, hm, hmm.len Tryz.underlying140 o.type, Result.andThen]
 rw [hs]
 exact hK' _ _ hK
theorem jck_none (h : JO w g gd gp n p.e j) (d : Z.D w gd S n p.m) (ok : p.m.Ok n) (hc : chkE p j = 0) (hf : frK j.fresh (j.homes n) = []) :
 Calls Tryz.prog 76 #[.pointer (some ⟨g, 0, none⟩)] w (fun en w' => en = .returned (.int .i64 0) /\ ∃ k, w' = w.drewN k) := by
 have C := lH (jcheck_any h d ok)
 have h8 : chkE ⟨p.m, p.e⟩ j = 0 := hc
 rw [h8] at C
 have c8 := h.c8
 have H := lH h
 have LF : Hid (((frK j.fresh (j.homes n)).length : Nat) = 0) := lH (by rw [hf]; rfl)
 clear h d ok hc h8 hf
 go_enter Tryz.func76, Tryz.ntmps76
 go_wp2_with (first
  | (go_at_call 111; refine C.out.mono ?_; rintro en w1 ⟨rfl, k, rfl⟩
     have HK := lH (H.out.drewN k))
  | (refine wp_lenG (by rfl) (.tmp 15) rfl rfl HK.out ?_; rw [LF.out]))
 go_ret
 exact ⟨rfl, _, rfl⟩
end
end Go.Proofs.YthoebjekkfhhgaaGreat
