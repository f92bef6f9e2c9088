/-
  Own work. A transaction: how much it has written, Read; its list, sorted.
-/
import Derived.Test.YthfmkdeglceppaaTn
namespace Go.Proofs.Ythfmkdeglceppaa
open Go.RowKit Go.Maps Go.Sort Go.Shelf
set_option linter.unusedVariables false
set_option linter.unusedSimpArgs false

theorem zeroTptrI : (Try.prog.info? 107).bind (·.zero) = some (.pointer none) := by kernel_rfl
theorem zeroTptr (w : World) : (zeroValue 107).run Try.prog w = .ok (.pointer none) w := by
  have h := zeroTptrI
  cases hi : Try.prog.info? 107 with
  | none => simp [hi] at h
  | some i =>
    simp only [hi, Option.bind_some] at h
    simp [zeroValue, typeInfo, hi, h, Result.andThen]
theorem infoTsec : (Try.prog.info? 109).map (·.size) = some 512 := by kernel_rfl
theorem tsec_iv {l : List UInt8} (hl : l.length = 512) : (Try.prog.info? 109).map (·.size) = some (cellsB l).toArray.size := by rw [cellsB_size, hl]; exact infoTsec
/-- The block that stands for home i, none if nothing is written there. -/
def tpA (ws : List ByteArray) (pb : Nat → Nat) (i : Nat) : Option Addr := if (ws.getD i emp).size = 0 then none else some ⟨pb i, 0, none⟩
def twB (ws : List ByteArray) (i : Nat) : Bool := decide ((ws.getD i emp).size ≠ 0)
/-- What a transaction asks to be committed. -/
def tPu (ws : List ByteArray) (h : Nat) : List Pu := (frK ws h).map fun (i : Nat) => ⟨(i : Int), lst (ws.getD i emp)⟩
section
variable {w w' W : World} {gt g gd gp gm T h q n : Nat} {ws : List ByteArray} {M S B : Nat → Prop} {v : Value} {Z : DK} {w0 : World} {p : Pt} {j : JM}
theorem TV.size (a : TV w gm h q ws M) : ∃ D : DU, w.ownsMap Try.prog 3 ptrElem gm q D ∧ Maps.size D = (frK ws h).length := by
  obtain ⟨⟨D, pb, hm, hD, _⟩, _⟩ := a
  refine ⟨D, hm, ?_⟩
  obtain ⟨es, hDe, hp, hk⟩ := hm.entries intK
  have h1 := (hD.keys hDe hp hk).length_eq
  rw [List.length_map] at h1
  rw [h1, hDe]
  simp [Maps.size, intKeys]
theorem wp_lenT {ops : Array Oper} {rest : List Oper} {o : Oper} {a : Act} {Q : Exit → Act → World → Prop} (hw : Region.wanted o (yielded ops a.tmps) = true) (mo : Operand) (hop : o.op = Op.call { callee := Callee.builtin Builtin.len, args := #[mo], argTypes := #[72] })
    (hm : a.eval mo = .map (some gm)) (v : TV w gm h q ws M) (hK : wpList Try.prog ops Q rest (a.put o.dst (.int .i64 ((frK ws h).length : Nat))) w) : wpList Try.prog ops Q (o :: rest) a w := by
  obtain ⟨D, hmm, hs⟩ := v.size
  refine BigFrame.wpList_want hw fun K' hK' => ?_
  unfold Oper.wp
  simp [execOp, hop, resolve, invoke, builtin, hm, hmm.len Try.underlying72 o.type, Result.andThen]
  rw [hs]
  exact hK' _ _ hK
/-- A look with 'ok' at a home that there is. -/
theorem wp_lookT {ops : Array Oper} {rest : List Oper} {o : Oper} {a : Act} {Q : Exit → Act → World → Prop} (hg : o.guard = none) (mo xo : Operand) (hop : o.op = Op.lookup 72 mo xo true)
    (hm : a.eval mo = .map (some gm)) (i : Nat) (hx : a.eval xo = .int .i64 (i : Int)) (D : DU) (pb : Nat → Nat) (hmm : W.ownsMap Try.prog 3 ptrElem gm q D) (hD : MapOfP D h ws pb) (hh : h ≤ 4096) (hi : i < h)
    (hK : wpList Try.prog ops Q rest (a.put o.dst (.tuple #[.pointer (tpA ws pb i), .bool (twB ws i)])) W) : wpList Try.prog ops Q (o :: rest) a W := by
  refine wpList_lookup_own_ok W hg mo xo 72 hop 3 107 intK Try.underlying72 ptrElem (zeroTptr W) (.lit (.int .i64 (-1))) [] rfl gm q D hm hmm _ (kI i) hx (keyI (by omega)) ?_
  intro v ps hv
  rw [hD.hi i hi]
  have e : v = .pointer (tpA ws pb i) := by
    unfold tpA
    rcases ptrElem_inv hv with ⟨rfl, e⟩ | ⟨b, rfl, e⟩
    · rw [Prod.mk.injEq] at e
      by_cases h0 : (ws.getD i emp).size = 0
      · rw [if_pos h0]
      · have e1 := e.1
        rw [hD.at_ i hi h0] at e1
        injection e1 with e1
        injection e1 with _ e1
        omega
    · rw [Prod.mk.injEq] at e
      have e1 := e.1
      by_cases h0 : (ws.getD i emp).size = 0
      · rw [hD.no hi h0] at e1
        injection e1 with e1
        injection e1 with _ e1
        omega
      · rw [if_neg h0]
        rw [hD.at_ i hi h0] at e1
        injection e1 with e1
        injection e1 with _ e1
        have : pb i = b := by omega
        rw [this]
  rw [e]
  exact hK
set_option maxRecDepth 100000 in
/-- A look at a home where something is written. -/
theorem lookT (D : DU) (pb : Nat → Nat) (hmm : W.ownsMap Try.prog 3 ptrElem gm q D) (hD : MapOfP D h ws pb) (hh : h ≤ 4096) {i : Nat} (hi : i < h) (hf : (ws.getD i emp).size ≠ 0) :
    (Instr.lookup 72 (.map (some gm)) (.int .i64 (i : Int)) false).run Try.prog W = .ok (.pointer (some ⟨pb i, 0, none⟩)) W := by
  obtain ⟨v, ps, hrun, hv⟩ := hmm.lookup intK Try.underlying72 (zeroTptr W) (show ptrElem (.pointer none) = some (.lit (.int .i64 (-1)), []) from rfl) (keyI (i := i) (by omega))
  rw [hrun]
  rcases ptrElem_inv hv with ⟨rfl, e⟩ | ⟨b, rfl, e⟩
  · rw [Prod.mk.injEq] at e
    have e1 := e.1
    rw [hD.at_ i hi hf] at e1
    injection e1 with e1
    injection e1 with _ e1
    omega
  · rw [Prod.mk.injEq] at e
    have e1 := e.1
    rw [hD.at_ i hi hf] at e1
    injection e1 with e1
    injection e1 with _ e1
    have : pb i = b := by omega
    rw [this]
set_option maxRecDepth 100000 in
theorem ttouch_any (a : TO w gt g T h q ws M) : Calls Try.prog 35 #[.pointer (some ⟨gt, 0, none⟩)] w (RetW w (.int .i64 ((frK ws h).length : Nat))) := by
  have C := Lib.hid (tfin_any a)
  obtain ⟨gm, c0, c1, c2, v, _⟩ := a.cells
  have V := Lib.hid v
  clear a v
  go_enter Try.func35, Try.ntmps35
  go_wp2_with (first
    | (go_at_call 61; refine C.out.mono ?_; rintro e w1 ⟨rfl, rfl⟩)
    | (refine wp_lenT (by rfl) (.tmp 8) rfl rfl V.out ?_))
  go_ret
  exact ⟨rfl, rfl⟩
/-! ### The keys, sorted -/
theorem tkeys_any (mb : Option Nat) (W : World) : Calls Try.prog 82 #[.map mb] W fun e w' => e = .returned (.func (.func 94) #[] #[.pointer (some ⟨W.heap.size, 0, none⟩)]) ∧ w' = W.alloc (.cells #[.map mb] 72) :=
  callsIn_wide.1 (AnyZI.keys_in keysT Fence.wide 5 trivial rfl mb W)
set_option maxHeartbeats 1000000 in
theorem tsorted_any (a : TV w gm h q ws M) (hq : q ≤ 1073741824) :
    Calls Try.prog 75 #[.func (.func 94) #[] #[.pointer (some ⟨w.heap.size, 0, none⟩)]] (w.alloc (.cells #[.map (some gm)] 72)) (fun e w' => RetI w (frK ws h) e w') := by
  obtain ⟨⟨D, pb, hm, hD, _⟩, _⟩ := a
  have hbl := hm.lt
  have hsz := hm.size_le
  have hseq : SeqGives Fence.wide 2 Try.prog 94 #[.pointer (some ⟨w.heap.size, 0, none⟩)] encZ (fun ss => ss.Perm (intKeys D)) (Maps.size D) (w.alloc (.cells #[.map (some gm)] 72)) :=
    AnyZI.keys_gives (ρ := keysT_ren) { keysT with } Fence.wide _ trivial rfl (by omega) w.heap.size gm q D _ (by simp) (by simp) (by
      obtain ⟨es, clock, hb, Ft, hs, hD⟩ := hm
      exact ⟨es, clock, (Below.heap_alloc _ _ gm hbl).trans hb, Ft, hs, hD⟩)
  have cS := AnyZI.sorted_in sorted40 Fence.wide 5 trivial trivial trivial trivial rfl (by omega) (sorts40 _) (enters_of Try.func91 (by kernel_rfl) rfl) 94 #[.pointer (some ⟨w.heap.size, 0, none⟩)] trivial (enters_of Try.func94 (by kernel_rfl) rfl) _ _ (by unfold maxLen; omega) (by omega) _ hseq
  change CallsIn _ _ Try.prog 75 _ _ _ at cS
  refine callsIn_wide.1 (cS.mono ?_)
  rintro e w' ⟨v, ss, rfl, hS, hrow, hnil, hb⟩
  obtain ⟨es, hDe, hp, hk⟩ := hm.entries intK
  have hP : ss.Perm ((frK ws h).map fun (i : Nat) => (i : Int)) := hS.trans (hD.keys hDe hp hk).symm
  have hlen : ss.length = (frK ws h).length := by rw [hP.length_eq, List.length_map]
  have hsort : ss.mergeSort leI = (frK ws h).map fun (i : Nat) => (i : Int) := by rw [mergeSort_of_perm_i hP]; exact RM.wtK_sorted (frM ws) h
  have hrow2 : OwnV 3 w' (w.alloc (.cells #[.map (some gm)] 72)).heap.size v (ints (frK ws h)) := by
    unfold OwnV
    have e1 : (ss.mergeSort leI).map encZ = ints (frK ws h) := by
      rw [hsort]
      unfold ints
      rw [List.map_map]
      rfl
    have e2 : (ints (frK ws h)).length = ss.length := by unfold ints; rw [List.length_map, hlen]
    rw [e2, ← e1]
    exact hrow
  obtain ⟨A, q, c, rfl⟩ := hrow2.slice
  refine ⟨A, q, c, rfl, ⟨hrow2.1, ?_⟩, ((Below.refl _ w).alloc (Nat.le_refl _) _).trans (hb.mono (by simp))⟩
  rcases hrow2.2 with h2 | ⟨g', c', cur, e, h3, r⟩
  · exact .inl h2
  · exact .inr ⟨g', c', cur, e, by simp at h3; omega, r⟩
end
end Go.Proofs.Ythfmkdeglceppaa
