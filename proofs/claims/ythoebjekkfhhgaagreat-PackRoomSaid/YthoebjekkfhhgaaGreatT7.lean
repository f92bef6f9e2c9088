/-
  Own work.
-/
import Derived.Test.YthoebjekkfhhgaaGreatCp9
import Derived.Test.YthoebjekkfhhgaaGreatQ1
import Derived.Test.YthoebjekkfhhgaaGreatLs7
import Derived.Defers
import Derived.Tactics2
set_option linter.unusedVariables false
set_option linter.unusedSimpArgs false
set_option maxRecDepth 100000
set_option maxHeartbeats 8000000
namespace Go.Proofs.YthoebjekkfhhgaaGreat
open Go.RowKit Go.Maps
def ptrElem (v : Value) : Option (DU × List MemPlace) :=
 match v with
 | .pointer none => some (.lit (.int .i64 (-1)), [])
 | .pointer (some ⟨b, 0, none⟩) => some (.lit (.int .i64 (b : Int)), [])
 | _ => none
theorem ptrElem_mk (b : Nat) : ptrElem (.pointer (some ⟨b, 0, none⟩)) = some (.lit (.int .i64 (b : Int)), []) := rfl
theorem ptrElem_inv {v : Value} {y : DU × List MemPlace} (h : ptrElem v = some y) : (v = .pointer none /\ y = (.lit (.int .i64 (-1)), [])) \/ ∃ b : Nat, v = .pointer (some ⟨b, 0, none⟩) /\ y = (.lit (.int .i64 (b : Int)), []) := by
 unfold ptrElem at h
 split at h
 · simp only [Option.some.injEq] at h
   exact .inl ⟨rfl, h.symm⟩
 · simp only [Option.some.injEq] at h
   exact .inr ⟨_, rfl, h.symm⟩
 · cases h
structure MapOfP (D : DU) (n : Nat) (ws : List ByteArray) (pb : Nat -> Nat) : Prop where
 ism : IsMap D
 hs : ∀ kl, Maps.has D kl = true -> ∃ i : Nat, i < n /\ kl = kI i
 hi : ∀ i, i < n -> Maps.has D (kI i) = decide ((ws.getD i emp).size ≠ 0)
 at_ : ∀ i, i < n -> (ws.getD i emp).size ≠ 0 -> ∀ z, D.atKey (kI i) z = .lit (.int .i64 (pb i : Int))
theorem MapOfP.put {D : DU} {n : Nat} {ws : List ByteArray} {pb : Nat -> Nat} (h : MapOfP D n ws pb) (hw : ws.length = n) {i : Nat} (hi : i < n) {s : ByteArray} (hs : s.size ≠ 0) (b : Nat) : MapOfP (D.put (kI i) (.lit (.int .i64 (b : Int)))) n (ws.set i s) (fun k => if k = i then b else pb k) := by
 refine ⟨h.ism.put _ _, fun kl hk => ?_, fun j hj => ?_, fun j hj hne z => ?_⟩
 · by_cases e : kl = kI i
   · exact ⟨i, hi, e⟩
   · rw [has_put_other e] at hk
     exact h.hs kl hk
 · rw [getD_set _ _ _ _ (by omega)]
   by_cases e : i = j
   · subst e
     rw [has_put_same h.ism (kI_key i), if_pos rfl, eq_comm, decide_eq_true_iff]
     exact hs
   · rw [has_put_other (fun e' => e (kI_inj e').symm), if_neg e]
     exact h.hi j hj
 · rw [getD_set _ _ _ _ (by omega)] at hne
   by_cases e : i = j
   · subst e
     rw [atKey_put_same h.ism (kI_key i), if_pos rfl]
   · rw [atKey_put_other (fun e' => e (kI_inj e').symm), if_neg (fun e' => e e'.symm)]
     rw [if_neg e] at hne
     exact h.at_ j hj hne z
theorem MapOfP.none (n : Nat) (ws : List ByteArray) (pb : Nat -> Nat) (h : ∀ i, i < n -> (ws.getD i emp).size = 0) : MapOfP (.map []) n ws pb :=
 ⟨isMap_empty, fun kl hk => by simp [Maps.has] at hk, fun i hi => by rw [h i hi]; simp [Maps.has], fun i hi hne => absurd (h i hi) hne⟩
theorem MapOfP.no {D : DU} {n : Nat} {ws : List ByteArray} {pb : Nat -> Nat} (h : MapOfP D n ws pb) {i : Nat} (hi : i < n) (hw : (ws.getD i emp).size = 0) (z : DU) : D.atKey (kI i) z = z :=
 atKey_of_not_has (by rw [h.hi i hi, hw]; rfl) z
theorem MapOfP.keys {D : DU} {n : Nat} {ws : List ByteArray} {pb : Nat -> Nat} (h : MapOfP D n ws pb) {es : List (Lit × DU)} (hD : D = .map es) (hp : es.Pairwise (fun p q => p.1 ≠ q.1)) (hk : ∀ p ∈ es, WideAt.IsKeyLit p.1) :
 ((frK ws n).map fun (i : Nat) => (i : Int)).Perm (intKeys D) := by
 subst hD
 refine perm_intKeys hp (fun p hp' => ?_) ?_ (fun x => ?_)
 · obtain ⟨i, _, e⟩ := h.hs p.1 (List.any_eq_true.2 ⟨p, hp', WideAt.sameKey_self (hk p hp')⟩)
   exact ⟨_, e⟩
 · refine List.pairwise_map.2 ((List.Pairwise.filter _ (List.nodup_range (n := n))).imp ?_)
   intro a b hne e
   exact hne (by omega)
 · rw [List.mem_map]
   constructor
   · rintro ⟨i, hi, rfl⟩
     obtain ⟨h1, h2⟩ := frK_mem hi
     show Maps.has _ (kI i) = true
     rw [h.hi i h1, decide_eq_true_iff]
     exact h2
   · intro hx
     obtain ⟨i, hi, e⟩ := h.hs _ hx
     have ei : x = (i : Int) := by
      unfold kI at e
      injection e
     subst ei
     refine ⟨i, ?_, rfl⟩
     have hx' : Maps.has (.map es) (kI i) = true := hx
     rw [h.hi i hi, decide_eq_true_iff] at hx'
     exact frK_in hi hx'
theorem ownsMap_onlyP {S : Nat -> Prop} {w w' : World} {D : DU} {b c : Nat} (h : w.ownsMap Tryz.prog 3 ptrElem b c D) (ho : Only S w w') (hS : ¬ S b) : w'.ownsMap Tryz.prog 3 ptrElem b c D := by
 have hlt := h.lt
 obtain ⟨es, clock, hb, r⟩ := h
 exact ⟨es, clock, (ho.block b hlt hS).trans hb, r⟩
def txC (g T gm : Nat) : Array Value := #[.pointer (some ⟨g, 0, none⟩), .int .u64 (T : Int), .map (some gm)]
structure TV (w : World) (gm h q : Nat) (ws : List ByteArray) (M : Nat -> Prop) : Prop where
 ex : ∃ (D : DU) (pb : Nat -> Nat), w.ownsMap Tryz.prog 3 ptrElem gm q D /\ MapOfP D h ws pb /\ ∀ i, i < h -> (ws.getD i emp).size ≠ 0 -> M (pb i) /\ Bw w (pb i) 190 (lst (ws.getD i emp))
 mg : M gm
 ml : ∀ k, M k -> k < w.heap.size
 wl : ws.length = h
 wz : ∀ s ∈ ws, s.size = 0 \/ s.size = 512
 hh : h <= 4096
structure TO (w : World) (gt g T h q : Nat) (ws : List ByteArray) (M : Nat -> Prop) : Prop where
 ex : ∃ gm, w.heap[gt]? = some (.cells (txC g T gm) 92 (0, 0)) /\ TV w gm h q ws M
 gt : ¬ M gt
 tn : T < 9223372036854775808
section
variable {w w' : World} {gt g T h q gm : Nat} {ws : List ByteArray} {M S : Nat -> Prop}
theorem TV.only (a : TV w gm h q ws M) (ho : Only S w w') (hS : ∀ k, M k -> ¬ S k) : TV w' gm h q ws M := by
 obtain ⟨⟨D, pb, h1, h2, h3⟩, mg, ml, wl, wz, hh⟩ := a
 refine ⟨⟨D, pb, ownsMap_onlyP h1 ho (hS _ mg), h2, fun i hi hne => ?_⟩, mg, fun k hk => Nat.lt_of_lt_of_le (ml k hk) ho.size, wl, wz, hh⟩
 obtain ⟨m1, m2⟩ := h3 i hi hne
 exact ⟨m1, (ho.block _ (ml _ m1) (hS _ m1)).trans m2⟩
theorem TO.lt (a : TO w gt g T h q ws M) : gt < w.heap.size := by
 obtain ⟨⟨gm, h1, _⟩, _, _⟩ := a
 exact (Array.getElem?_eq_some_iff.1 h1).1
theorem TO.ml (a : TO w gt g T h q ws M) : ∀ k, M k -> k < w.heap.size := by
 obtain ⟨⟨gm, h1, v⟩, _, _⟩ := a
 exact v.ml
theorem TO.only (a : TO w gt g T h q ws M) (ho : Only S w w') (hg : ¬ S gt) (hS : ∀ k, M k -> ¬ S k) : TO w' gt g T h q ws M := by
 have hl := a.lt
 obtain ⟨⟨gm, h1, v⟩, gt', tn⟩ := a
 exact ⟨⟨gm, (ho.block _ hl hg).trans h1, v.only ho hS⟩, gt', tn⟩
theorem TO.below (a : TO w gt g T h q ws M) (hb : Below w.heap.size w w') : TO w' gt g T h q ws M := a.only (Only.of_below (S := fun _ => False) hb (Nat.le_refl _)) (fun h => h) (fun _ _ h => h)
theorem TO.nil_of (hb : w.heap[gt]? = some (.cells (txC g T gm) 92 (0, 0))) (hm : w.ownsMap Tryz.prog 3 ptrElem gm 0 (.map [])) (hne : gt ≠ gm) (hT : T < 9223372036854775808) (hh : h <= 4096) : TO w gt g T h 0 (List.replicate h emp) (fun k => k = gm) := by
 have h0 : ∀ i : Nat, i < h -> ((List.replicate h emp).getD i emp).size = 0 := fun i _ => by
  rw [List.getD_eq_getElem?_getD, List.getElem?_replicate]
  split <;> rfl
 refine ⟨⟨gm, hb, ⟨_, fun _ => 0, hm, MapOfP.none _ _ _ h0, fun i hi hne => absurd (h0 i hi) hne⟩, rfl, fun k hk => by subst hk; exact hm.lt, List.length_replicate, fun s hs => .inl (by rw [List.eq_of_mem_replicate hs]; rfl), hh⟩, hne, hT⟩
end
def TZ (w : World) (gt : Nat) : Prop := w.heap[gt]? = some (.cells #[.pointer none, .int .u64 0, .map none] 92 (0, 0))
theorem TZ.lt {w : World} {gt : Nat} (h : TZ w gt) : gt < w.heap.size := (Array.getElem?_eq_some_iff.1 h).1
theorem TZ.only {w w' : World} {gt : Nat} {S : Nat -> Prop} (h : TZ w gt) (ho : Only S w w') (hS : ¬ S gt) : TZ w' gt := (ho.block _ h.lt hS).trans h
theorem TZ.below {w w' : World} {gt : Nat} (h : TZ w gt) (hb : Below w.heap.size w w') : TZ w' gt := (hb.block _ h.lt).trans h
theorem infoTx : (Tryz.prog.info? 92).map (·.size) = some 3 := by kernel_rfl
def TN (w : World) (v : Value) : Prop := v = .pointer none \/ ∃ gt, v = .pointer (some ⟨gt, 0, none⟩) /\ TZ w gt
section
variable {w w' : World} {gt g gd gp T h q n : Nat} {ws : List ByteArray} {M S B : Nat -> Prop} {v : Value} {Z : DK} {w0 : World} {p : Pt} {j : JM}
theorem TN.only (a : TN w v) (ho : Only S w w') (hS : ∀ gt, v = .pointer (some ⟨gt, 0, none⟩) -> ¬ S gt) : TN w' v := by
 rcases a with e | ⟨gt, e, z⟩
 · exact .inl e
 · exact .inr ⟨gt, e, z.only ho (hS gt e)⟩
theorem TN.below (a : TN w v) (hb : Below w.heap.size w w') : TN w' v := a.only (Only.of_below (S := fun _ => False) hb (Nat.le_refl _)) (fun _ _ h => h)
theorem TO.cells (a : TO w gt g T h q ws M) : ∃ gm, w.cell? ⟨gt, 0, none⟩ = some (.pointer (some ⟨g, 0, none⟩)) /\ w.cell? ⟨gt, 1, none⟩ = some (.int .u64 (T : Int)) /\ w.cell? ⟨gt, 2, none⟩ = some (.map (some gm)) /\ TV w gm h q ws M /\ w.heap[gt]? = some (.cells (txC g T gm) 92 (0, 0)) := by
 obtain ⟨⟨gm, h1, v⟩, _, _⟩ := a
 exact ⟨gm, cell_of_row w gt 0 _ _ (0, 0) h1, cell_of_row w gt 1 _ _ (0, 0) h1, cell_of_row w gt 2 _ _ (0, 0) h1, v, h1⟩
theorem tfin_any (a : TO w gt g T h q ws M) : Calls Tryz.prog 39 #[.pointer (some ⟨gt, 0, none⟩)] w (RetW w (.bool false)) := by
 obtain ⟨gm, c0, _⟩ := a.cells
 clear a
 go_enter Tryz.func39, Tryz.ntmps39
 go_wp2_with fail
 go_ret
 exact ⟨rfl, rfl⟩
theorem thomes_any (a : TO w gt g T h q ws M) (u : UpB Z w0 w g gd gp n p j B) (ok : p.m.Ok n) : Calls Tryz.prog 92 #[.pointer (some ⟨gt, 0, none⟩)] w (RetV2 w (.int .i64 (j.homes n : Nat))) := by
 have C := lH (tfin_any a)
 have CH := lH (u.homesC ok)
 obtain ⟨gm, c0, _⟩ := a.cells
 clear a u ok
 go_enter Tryz.func92, Tryz.ntmps92
 go_wp2_with (first
  | (go_at_call 39; refine C.out.mono ?_; rintro e w1 ⟨rfl, rfl⟩)
  | (go_at_call 126; refine CH.out.mono ?_; rintro e w2 ⟨rfl, b2⟩
     have B2 := lH b2
     clear b2))
 go_ret
 exact ⟨rfl, B2.out⟩
def RetA (w : World) (gt : Nat) (e : Ending) (w' : World) : Prop := e = .returned (.tuple #[]) /\ TZ w' gt /\ Only (fun k => k = gt) w w'
def txZ : List Value := [Value.pointer none, Value.int .u64 0, Value.map none]
theorem tz_store {cur : Array Value} (hg : w.heap[gt]? = some (.cells cur 92 (0, 0))) (hs : cur.size = 3) : TZ (w.setRow gt (cur.toList.take 0 ++ txZ ++ cur.toList.drop (0 + 3)).toArray) gt := by
 have h1 := setRow_heap w gt _ (cur.toList.take 0 ++ txZ ++ cur.toList.drop (0 + 3)).toArray _ _ hg
 have e : (cur.toList.take 0 ++ txZ ++ cur.toList.drop (0 + 3)).toArray = #[Value.pointer none, Value.int .u64 0, Value.map none] := by
  have hd : cur.toList.drop (0 + 3) = [] := List.drop_eq_nil_of_le (by rw [Array.length_toList]; omega)
  rw [hd]
  rfl
 unfold TZ
 rw [h1, e]
end
end Go.Proofs.YthoebjekkfhhgaaGreat
namespace Go.Proofs.YthoebjekkfhhgaaGreat
open Go.RowKit Go.Maps Go.Sort Go.Shelf
theorem zeroTptrI : (Tryz.prog.info? 150).bind (·.zero) = some (.pointer none) := by kernel_rfl
theorem zeroTptr (w : World) : (zeroValue 150).run Tryz.prog w = .ok (.pointer none) w := by
 have h := zeroTptrI
 cases hi : Tryz.prog.info? 150 with
 | none => simp [hi] at h
 | some i =>
   simp only [hi, Option.bind_some] at h
   simp [zeroValue, typeInfo, hi, h, Result.andThen]
theorem infoTsec : (Tryz.prog.info? 190).map (·.size) = some 512 := by kernel_rfl
theorem tsec_iv {l : List UInt8} (hl : l.length = 512) : (Tryz.prog.info? 190).map (·.size) = some (cellsB l).toArray.size := by rw [cellsB_size, hl]; exact infoTsec
def tpA (ws : List ByteArray) (pb : Nat -> Nat) (i : Nat) : Option Addr := if (ws.getD i emp).size = 0 then none else some ⟨pb i, 0, none⟩
def twB (ws : List ByteArray) (i : Nat) : Bool := decide ((ws.getD i emp).size ≠ 0)
def tPu (ws : List ByteArray) (h : Nat) : List Pu := (frK ws h).map fun (i : Nat) => ⟨(i : Int), lst (ws.getD i emp)⟩
section
variable {w w' W : World} {gt g gd gp gm T h q n : Nat} {ws : List ByteArray} {M S B : Nat -> Prop} {v : Value} {Z : DK} {w0 : World} {p : Pt} {j : JM}
theorem TV.size (a : TV w gm h q ws M) : ∃ D : DU, w.ownsMap Tryz.prog 3 ptrElem gm q D /\ Maps.size D = (frK ws h).length := by
 obtain ⟨⟨D, pb, hm, hD, _⟩, _⟩ := a
 refine ⟨D, hm, ?_⟩
 obtain ⟨es, hDe, hp, hk⟩ := hm.entries intK
 have h1 := (hD.keys hDe hp hk).length_eq
 rw [List.length_map] at h1
 rw [h1, hDe]
 simp [Maps.size, intKeys]
theorem wp_lenT {ops : Array Oper} {rest : List Oper} {o : Oper} {a : Act} {Q : Exit -> Act -> World -> Prop} (hw : Region.wanted o (yielded ops a.tmps) = true) (mo : Operand) (hop : o.op = Op.call { callee := Callee.builtin Builtin.len, args := #[mo], argTypes := #[90] })
 (hm : a.eval mo = .map (some gm)) (v : TV w gm h q ws M) (hK : wpList Tryz.prog ops Q rest (a.put o.dst (.int .i64 ((frK ws h).length : Nat))) w) : wpList Tryz.prog ops Q (o :: rest) a w := by
 obtain ⟨D, hmm, hs⟩ := v.size
 refine BigFrame.wpList_want hw fun K' hK' => ?_
 unfold Oper.wp
 simp [execOp, hop, resolve, invoke, builtin, hm, hmm.len Tryz.underlying90 o.type, Result.andThen]
 rw [hs]
 exact hK' _ _ hK
theorem wp_lookT {ops : Array Oper} {rest : List Oper} {o : Oper} {a : Act} {Q : Exit -> Act -> World -> Prop} (hg : o.guard = none) (mo xo : Operand) (hop : o.op = Op.lookup 90 mo xo true)
 (hm : a.eval mo = .map (some gm)) (i : Nat) (hx : a.eval xo = .int .i64 (i : Int)) (D : DU) (pb : Nat -> Nat) (hmm : W.ownsMap Tryz.prog 3 ptrElem gm q D) (hD : MapOfP D h ws pb) (hh : h <= 4096) (hi : i < h)
 (hK : wpList Tryz.prog ops Q rest (a.put o.dst (.tuple #[.pointer (tpA ws pb i), .bool (twB ws i)])) W) : wpList Tryz.prog ops Q (o :: rest) a W := by
 refine wpList_lookup_own_ok W hg mo xo 90 hop 3 150 intK Tryz.underlying90 ptrElem (zeroTptr W) (.lit (.int .i64 (-1))) [] rfl gm q D hm hmm _ (kI i) hx (keyI (by omega)) ?_
 intro v ps hv
 rw [hD.hi i hi]
 have e : v = .pointer (tpA ws pb i) := by
  unfold tpA
  rcases ptrElem_inv hv with ⟨rfl, e⟩ | ⟨b, rfl, e⟩
  · rw [Prod.mk.injEq] at e
    by_cases h0 : (ws.getD i emp).size = 0
    · rw [if_pos h0]
    · have e1 := e.1
      rw [hD.at_ i hi h0] at e1
      injection e1 with e1
      injection e1 with _ e1
      omega
  · rw [Prod.mk.injEq] at e
    have e1 := e.1
    by_cases h0 : (ws.getD i emp).size = 0
    · rw [hD.no hi h0] at e1
      injection e1 with e1
      injection e1 with _ e1
      omega
    · rw [if_neg h0]
      rw [hD.at_ i hi h0] at e1
      injection e1 with e1
      injection e1 with _ e1
      have : pb i = b := by omega
      rw [this]
 rw [e]
 exact hK
theorem lookT (D : DU) (pb : Nat -> Nat) (hmm : W.ownsMap Tryz.prog 3 ptrElem gm q D) (hD : MapOfP D h ws pb) (hh : h <= 4096) {i : Nat} (hi : i < h) (hf : (ws.getD i emp).size ≠ 0) :
 (Instr.lookup 90 (.map (some gm)) (.int .i64 (i : Int)) false).run Tryz.prog W = .ok (.pointer (some ⟨pb i, 0, none⟩)) W := by
 obtain ⟨v, ps, hrun, hv⟩ := hmm.lookup intK Tryz.underlying90 (zeroTptr W) (show ptrElem (.pointer none) = some (.lit (.int .i64 (-1)), []) from rfl) (keyI (i := i) (by omega))
 rw [hrun]
 rcases ptrElem_inv hv with ⟨rfl, e⟩ | ⟨b, rfl, e⟩
 · rw [Prod.mk.injEq] at e
   have e1 := e.1
   rw [hD.at_ i hi hf] at e1
   injection e1 with e1
   injection e1 with _ e1
   omega
 · rw [Prod.mk.injEq] at e
   have e1 := e.1
   rw [hD.at_ i hi hf] at e1
   injection e1 with e1
   injection e1 with _ e1
   have : pb i = b := by omega
   rw [this]
theorem ttouch_any (a : TO w gt g T h q ws M) : Calls Tryz.prog 12 #[.pointer (some ⟨gt, 0, none⟩)] w (RetW w (.int .i64 ((frK ws h).length : Nat))) := by
 have C := lH (tfin_any a)
 obtain ⟨gm, c0, c1, c2, v, _⟩ := a.cells
 have V := lH v
 clear a v
 go_enter Tryz.func12, Tryz.ntmps12
 go_wp2_with (first
  | (go_at_call 39; refine C.out.mono ?_; rintro e w1 ⟨rfl, rfl⟩)
  | (refine wp_lenT (by rfl) (.tmp 8) rfl rfl V.out ?_))
 go_ret
 exact ⟨rfl, rfl⟩
theorem tkeys_any (mb : Option Nat) (W : World) : Calls Tryz.prog 80 #[.map mb] W fun e w' => e = .returned (.func (.func 121) #[] #[.pointer (some ⟨W.heap.size, 0, none⟩)]) /\ w' = W.alloc (.cells #[.map mb] 90) :=
 callsIn_wide.1 (AnyZI.keys_in keysT Fence.wide 5 trivial rfl mb W)
theorem tsorted_any (a : TV w gm h q ws M) (hq : q <= 1073741824) :
 Calls Tryz.prog 79 #[.func (.func 121) #[] #[.pointer (some ⟨w.heap.size, 0, none⟩)]] (w.alloc (.cells #[.map (some gm)] 90)) (fun e w' => RetI w (frK ws h) e w') := by
 obtain ⟨⟨D, pb, hm, hD, _⟩, _⟩ := a
 have hbl := hm.lt
 have hsz := hm.size_le
 have hseq : SeqGives Fence.wide 2 Tryz.prog 121 #[.pointer (some ⟨w.heap.size, 0, none⟩)] encZ (fun ss => ss.Perm (intKeys D)) (Maps.size D) (w.alloc (.cells #[.map (some gm)] 90)) :=
  AnyZI.keys_gives (ρ := keysT_ren) { keysT with } Fence.wide _ trivial rfl (by omega) w.heap.size gm q D _ (by simp) (by simp) (by
   obtain ⟨es, clock, hb, Ft, hs, hD⟩ := hm
   exact ⟨es, clock, (Below.heap_alloc _ _ gm hbl).trans hb, Ft, hs, hD⟩)
 have cS := AnyZI.sorted_in sorted40 Fence.wide 5 trivial trivial trivial trivial rfl (by omega) (sorts40 _) (enters_of Tryz.func120 (by kernel_rfl) rfl) 121 #[.pointer (some ⟨w.heap.size, 0, none⟩)] trivial (enters_of Tryz.func121 (by kernel_rfl) rfl) _ _ (by unfold maxLen; omega) (by omega) _ hseq
 change CallsIn _ _ Tryz.prog 79 _ _ _ at cS
 refine callsIn_wide.1 (cS.mono ?_)
 rintro e w' ⟨v, ss, rfl, hS, hrow, hnil, hb⟩
 obtain ⟨es, hDe, hp, hk⟩ := hm.entries intK
 have hP : ss.Perm ((frK ws h).map fun (i : Nat) => (i : Int)) := hS.trans (hD.keys hDe hp hk).symm
 have hlen : ss.length = (frK ws h).length := by rw [hP.length_eq, List.length_map]
 have hsort : ss.mergeSort leI = (frK ws h).map fun (i : Nat) => (i : Int) := by rw [mergeSort_of_perm_i hP]; exact RM.wtK_sorted (frM ws) h
 have hrow2 : OwnV 3 w' (w.alloc (.cells #[.map (some gm)] 90)).heap.size v (ints (frK ws h)) := by
  unfold OwnV
  have e1 : (ss.mergeSort leI).map encZ = ints (frK ws h) := by
   rw [hsort]
   unfold ints
   rw [List.map_map]
   rfl
  have e2 : (ints (frK ws h)).length = ss.length := by unfold ints; rw [List.length_map, hlen]
  rw [e2, <- e1]
  exact hrow
 obtain ⟨A, q, c, rfl⟩ := hrow2.slice
 refine ⟨A, q, c, rfl, ⟨hrow2.1, ?_⟩, ((Below.refl _ w).alloc (Nat.le_refl _) _).trans (hb.mono (by simp))⟩
 rcases hrow2.2 with h2 | ⟨g', c', cur, e, h3, r⟩
 · exact .inl h2
 · exact .inr ⟨g', c', cur, e, by simp at h3; omega, r⟩
end
theorem zcT : Tryz.zeroCells190 = (cellsB zsec).toArray := by kernel_rfl
section
variable {w w' W : World} {gt g gd gp gm T h q n : Nat} {ws : List ByteArray} {M S B : Nat -> Prop} {v : Value} {Z : DK} {w0 : World} {p : Pt} {j : JM}
theorem wp_load_tsec {ops : Array Oper} {rest : List Oper} {o : Oper} {a : Act} {Q : Exit -> Act -> World -> Prop} (hgd : o.guard = none) (x : Operand) (ho : o.op = .load 190 x)
 (g : Nat) (hx : a.eval x = .pointer (some ⟨g, 0, none⟩)) (t : TypeId) (s : List UInt8) (hB : Bw w g t s) (hs : s.length = 512) (h : wpList Tryz.prog ops Q rest (a.put o.dst (.agg (cellsB s).toArray)) w) : wpList Tryz.prog ops Q (o :: rest) a w :=
 wpList_load_row hgd _ x ho g hx t _ (0, 0) _ hB Tryz.underlying190 rfl (tsec_iv hs) h
theorem wp_store_tsec {ops : Array Oper} {rest : List Oper} {o : Oper} {a : Act} {Q : Exit -> Act -> World -> Prop} (hgd : o.guard = none) (x y : Operand) (ho : o.op = .store 190 x y)
 (g : Nat) (s : List UInt8) (hx : a.eval x = .pointer (some ⟨g, 0, none⟩)) (hy : a.eval y = .agg (cellsB s).toArray) (t : TypeId) (old : List UInt8) (hB : Bw w g t old) (ho' : old.length = 512) (hs : s.length = 512)
 (h : ∀ w', Bw w' g t s -> Only (fun k => k = g) w w' -> wpList Tryz.prog ops Q rest (a.put o.dst undef) w') : wpList Tryz.prog ops Q (o :: rest) a w :=
 wpList_store_row hgd _ x y ho g _ hx hy t _ hB (tsec_iv hs) (by rw [cellsB_size, cellsB_size, ho', hs]) (cellsB_ones s) (h _ hB.row ((Only.refl _ w).setRow (S := fun k => k = g) rfl _))
theorem keyZt {z : Int} (h : -9223372036854775808 <= z /\ z <= 9223372036854775807) : keyOf Tryz.prog 3 (.int .i64 z) = some (.int .i64 z) := keyOf_int_mk Tryz.underlying3 (by
 have hm : IntKind.i64.min = -9223372036854775808 := rfl
 have hM : IntKind.i64.max = 9223372036854775807 := rfl
 simp [Lit.wf, hm, hM]
 omega)
def TNo (ws : List ByteArray) (h : Nat) (i : Int) : Prop := i < 0 \/ (h : Int) <= i \/ (ws.getD i.toNat emp).size = 0
theorem MapOfP.out {D : DU} {pb : Nat -> Nat} (hD : MapOfP D h ws pb) {i : Int} (hi : TNo ws h i) : Maps.has D (.int .i64 i) = false := by
 cases hh : Maps.has D (.int .i64 i) with
 | false => rfl
 | true =>
   obtain ⟨k, hk, e⟩ := hD.hs _ hh
   have ek : i = (k : Int) := by
    unfold kI at e
    injection e
   subst ek
   have h2 := hD.hi k hk
   have e2 : Maps.has D (kI k) = true := hh
   rw [e2] at h2
   have h3 := of_decide_eq_true h2.symm
   rcases hi with h4 | h4 | h4
   · omega
   · omega
   · exact absurd (by simpa using h4) h3
theorem wp_lookT_no {ops : Array Oper} {rest : List Oper} {o : Oper} {a : Act} {Q : Exit -> Act -> World -> Prop} (hg : o.guard = none) (mo xo : Operand) (hop : o.op = Op.lookup 90 mo xo true)
 (hm : a.eval mo = .map (some gm)) (i : Int) (hi : -9223372036854775808 <= i /\ i <= 9223372036854775807) (hx : a.eval xo = .int .i64 i) (D : DU) (pb : Nat -> Nat) (hmm : W.ownsMap Tryz.prog 3 ptrElem gm q D) (hD : MapOfP D h ws pb) (hno : TNo ws h i)
 (hK : ∀ v, wpList Tryz.prog ops Q rest (a.put o.dst (.tuple #[v, .bool false])) W) : wpList Tryz.prog ops Q (o :: rest) a W := by
 refine wpList_lookup_own_ok W hg mo xo 90 hop 3 150 intK Tryz.underlying90 ptrElem (zeroTptr W) (.lit (.int .i64 (-1))) [] rfl gm q D hm hmm _ (.int .i64 i) hx (keyZt hi) ?_
 intro v ps hv
 rw [hD.out hno]
 exact hK v
theorem tread_own (a : TO w gt g T h q ws M) (i : Nat) (hi : i < h) (hne : (ws.getD i emp).size ≠ 0) :
 Calls Tryz.prog 91 #[.pointer (some ⟨gt, 0, none⟩), .int .i64 (i : Int)] w fun en w' => ∃ A q c, en = .returned (.tuple #[.slice A q c, .int .i64 0]) /\ OwnX w' w.heap.size (.slice A q c) (lst (ws.getD i emp)) /\ Below w.heap.size w w' := by
 have C := lH (tfin_any a)
 obtain ⟨gm, c0, c1, c2, v, _⟩ := a.cells
 obtain ⟨⟨D, pb, hm, hD, hb⟩, mg, ml, wl, wz, hh⟩ := v
 obtain ⟨m1, m2⟩ := hb i hi hne
 have hl : (lst (ws.getD i emp)).length = 512 := by
  have hmem : ws.getD i emp ∈ ws := by
   rw [List.getD_eq_getElem?_getD, List.getElem?_eq_getElem (by omega)]
   exact List.getElem_mem _
  rcases wz _ hmem with h0 | h0
  · exact absurd h0 hne
  · exact h0
 have PA : Hid (tpA ws pb i = some ⟨pb i, 0, none⟩) := lH (by unfold tpA; rw [if_neg hne])
 have PB : Hid (twB ws i = true) := lH (decide_eq_true hne)
 obtain ⟨s, hs⟩ : ∃ s, lst (ws.getD i emp) = s := ⟨_, rfl⟩
 rw [hs] at m2 hl ⊢
 have HM := lH hm
 have HD := lH hD
 have B2 := lH m2
 have HL := lH hl
 have hlt := ml _ m1
 have zc : ∀ W : World, Hid (Bw (W.alloc (.cells (cellsB zsec).toArray 190)) W.heap.size 190 zsec) := fun W => lH (Bw.new W zsec _)
 have ZC := lH zc
 clear a hm hD hb m1 m2 hs hl ml wl wz hne zc
 go_enter Tryz.func91, Tryz.ntmps91
 go_wp2_with (first
  | (go_at_call 39; refine C.out.mono ?_; rintro e w1 ⟨rfl, rfl⟩)
  | (refine wp_lookT rfl (.tmp 15) (.tmp 16) rfl rfl i rfl D pb HM.out HD.out hh hi ?_; rw [PA.out, PB.out])
  | (refine wp_load_tsec rfl (.tmp 22) rfl (pb i) rfl _ s B2.out HL.out ?_)
  | (rw [zcT]; refine wp_store_tsec rfl (.tmp 8) (.tmp 23) rfl w.heap.size s rfl rfl _ zsec (ZC.out w).out zsec_len HL.out ?_; intro w3 h3 o3
     have H3 := lH h3
     have B3 : Hid (Below w.heap.size w w3) := lH (((Below.refl _ w).alloc (Nat.le_refl _) _).trans (o3.to_below (B := w.heap.size) (fun k hk => by omega) (by simp)))
     clear h3 o3))
 go_ret2
 exact ⟨some ⟨w.heap.size, 0, none⟩, 512, 512, rfl, OwnX.of_block H3.out (Nat.le_refl _) HL.out.symm (by simp only [maxLen]; omega), B3.out⟩
end
theorem PRow.base {w : World} {base b2 : Nat} {v : Value} {l : List PuR} (h : PRow w base v l) (hb : b2 <= base) : PRow w b2 v l := by
 refine ⟨⟨h.own.1, ?_⟩, h.dat, h.rng⟩
 rcases h.own.2 with h2 | ⟨g, c, cur, e, h3, r⟩
 · exact .inl h2
 · exact .inr ⟨g, c, cur, e, Nat.le_trans hb h3, r⟩
theorem tPu_len (ws : List ByteArray) (h : Nat) : (tPu ws h).length = (frK ws h).length := by simp [tPu]
theorem tPu_at {ws : List ByteArray} {h k i : Nat} (hk : (frK ws h)[k]? = some i) : (tPu ws h).take (k + 1) = (tPu ws h).take k ++ [⟨(i : Int), lst (ws.getD i emp)⟩] := by
 rw [List.take_add_one]
 have : (tPu ws h)[k]? = some ⟨(i : Int), lst (ws.getD i emp)⟩ := by
  unfold tPu
  rw [List.getElem?_map, hk]
  rfl
 rw [this]
 rfl
section
variable {w w' W : World} {gt g gd gp gm T h q n : Nat} {ws : List ByteArray} {M S B : Nat -> Prop} {v : Value} {Z : DK} {w0 : World} {p : Pt} {j : JM}
def RetPu (w : World) (ws : List ByteArray) (h : Nat) (en : Ending) (w' : World) : Prop :=
 ∃ A c rs, en = .returned (.slice A (frK ws h).length c) /\ PRow w' w.heap.size (.slice A (frK ws h).length c) rs /\ puL rs = tPu ws h /\ Below w.heap.size w w'
theorem tputs_any (a : TO w gt g T h q ws M) (hq : q <= 1073741824) : Calls Tryz.prog 42 #[.pointer (some ⟨gt, 0, none⟩)] w (RetPu w ws h) := by
 obtain ⟨gm, c0, c1, c2, v, hblk⟩ := a.cells
 have hgt := a.lt
 have hh := v.hh
 have SO := lH (tsorted_any v hq)
 have CK := lH (fun mb W => tkeys_any mb W)
 have V := lH v
 have HB := lH hblk
 obtain ⟨N, hN⟩ : ∃ N, (frK ws h).length = N := ⟨_, rfl⟩
 have HN := lH hN
 have hN2 : N <= 4096 := by rw [<- hN]; exact Nat.le_trans (frK_len ws h) hh
 have hR : RetPu w ws h = fun en w' => ∃ A c rs, en = .returned (.slice A N c) /\ PRow w' w.heap.size (.slice A N c) rs /\ puL rs = tPu ws h /\ Below w.heap.size w w' := by
  unfold RetPu
  rw [hN]
 rw [hR]
 clear a v hblk hN hR
 go_enter Tryz.func42, Tryz.ntmps42
 go_upto_region 3 with (first
  | (go_at_call 80; refine (CK.out _ _).mono ?_; rintro e w1 ⟨rfl, rfl⟩)
  | (go_at_call 79; refine SO.out.mono ?_; rintro e w2 ⟨A2, n2, c2', rfl, o2, b2⟩
     have hn2 := o2.len
     rw [show (ints (frK ws h)).length = N by unfold ints; rw [List.length_map]; exact HN.out] at hn2
     subst hn2
     have O2 := lH o2
     have B2 := lH b2
     clear o2 b2))
 go_loopw [3, 13] (fun l x wr => ∃ (k : Nat) (A' : Option Addr) (c' : Nat) (rs : List PuR), k <= n2 /\ x = .int .i64 (k : Int) /\ l = .slice A' k c' /\ PRow wr w2.heap.size (.slice A' k c') rs /\ puL rs = (tPu ws h).take k /\ Below w2.heap.size w2 wr /\ ∀ y ∈ rs, ∀ b, y.A = some b -> b.block < wr.heap.size) (fun _ x _ => n2 - (Go.RowKit.intOf x).toNat)
 case atStart => exact ⟨0, none, 0, [], Nat.zero_le _, rfl, rfl, PRow.nil _ _, rfl, Below.refl _ _, fun x hx => absurd hx (by simp)⟩
 case round =>
  obtain ⟨k, A', c', rs, hk, rfl, rfl, qp, ql, qb, qx⟩ := hrel
  have RP := lH qp
  have RL := lH ql
  have RB := lH qb
  have RX := lH qx
  clear qp ql qb qx
  by_cases hlt : k < n2
  · obtain ⟨i, hi⟩ : ∃ i, (frK ws h)[k]? = some i := ⟨_, List.getElem?_eq_getElem (by rw [HN.out]; exact hlt)⟩
    obtain ⟨hih, hne⟩ := frK_mem (List.mem_of_getElem? hi)
    obtain ⟨g1, rfl, _, hg1, hc1⟩ := O2.out.at_ (by omega)
    have k1 : wr.cell? ⟨g1, k, none⟩ = some (.int .i64 (i : Int)) := (RB.out.cell hg1).trans (hc1 k _ (by unfold ints; rw [List.getElem?_map, hi]; rfl))
    have hbw : Below w.heap.size w wr := B2.out.trans (RB.out.mono B2.out.size)
    have k2 : wr.cell? ⟨gt, 2, none⟩ = some (.map (some gm)) := (hbw.cell hgt).trans c2
    have v2 := V.out.only (Only.of_below (S := fun _ => False) hbw (Nat.le_refl _)) (fun _ _ h => h)
    obtain ⟨⟨D, pb, hm, hD, hbs⟩, mg, ml, wl, wz, _⟩ := v2
    have LK := lookT D pb hm hD hh hih hne
    obtain ⟨m1, m2⟩ := hbs i hih hne
    have hl : (lst (ws.getD i emp)).length = 512 := by
     have hmem : ws.getD i emp ∈ ws := by
      rw [List.getD_eq_getElem?_getD, List.getElem?_eq_getElem (by omega)]
      exact List.getElem_mem _
     rcases wz _ hmem with h0 | h0
     · exact absurd h0 hne
     · exact h0
    have SN := lH (tPu_at hi)
    obtain ⟨s, hs⟩ : ∃ s, lst (ws.getD i emp) = s := ⟨_, rfl⟩
    rw [hs] at m2 hl SN
    have hpbw : pb i < w.heap.size := V.out.ml _ m1
    obtain ⟨b, hbd⟩ : ∃ b, pb i = b := ⟨_, rfl⟩
    rw [hbd] at LK m2 hpbw
    have hbr : b < wr.heap.size := Nat.lt_of_lt_of_le hpbw hbw.size
    have HDB : Hid (HasB wr wr.heap.size (some ⟨b, 0, none⟩) 512 s) := lH (m2.has hl.symm)
    have hxr : -9223372036854775808 <= (i : Int) /\ (i : Int) <= 9223372036854775807 := by omega
    have B7 : Hid (Below wr.heap.size wr (wr.alloc (.cells #[.int .i64 (i : Int), .slice (some ⟨b, 0, none⟩) 512 512] 152))) := lH ((Below.refl _ _).alloc (Nat.le_refl _) _)
    have N7 := lH (RP.out.below B7.out)
    have HD7 := lH (HDB.out.on B7.out)
    have HS7 : Hid ((wr.alloc (.cells #[.int .i64 (i : Int), .slice (some ⟨b, 0, none⟩) 512 512] 152)).heap.size = wr.heap.size + 1) := lH (by simp)
    have hw2 : w.heap.size <= w2.heap.size := B2.out.size
    have HF7 : Hid (∀ a : Addr, (some ⟨b, 0, none⟩ : Option Addr) = some a -> (Value.slice A' k c').ownBlock ≠ some a.block /\ a.block < (wr.alloc (.cells #[.int .i64 (i : Int), .slice (some ⟨b, 0, none⟩) 512 512] 152)).heap.size) := lH (fun a ha => by
     injection ha with ha
     subst ha
     rw [HS7.out]
     exact ⟨fun hh => by have := (World.ownsRow.lt RP.out.own _ hh).1; dsimp only at this; omega, by show b < _; omega⟩)
    clear hi hc1 hm hD hbs mg ml wl wz m1 m2 hl hs hbd hne
    go_wp2_with (first
     | (at_builtin; refine wp_app_pu rfl (.tmp 17) (.tmp 28) rfl w2.heap.size _ rs rfl N7.out wr.heap.size 1 ⟨(i : Int), some ⟨b, 0, none⟩, 512, 512, s⟩ rfl (heap_alloc_new _ _) HD7.out (Nat.le_refl _) HF7.out hxr (fun x hx a ha => Nat.lt_of_lt_of_le (RX.out x hx a ha) B7.out.size) (by have := RP.out.len; omega) (Nat.le_trans RB.out.size B7.out.size) ?_
        intro A8 n8 c8 w8 pr8 b8 x8
        have PR8 := lH pr8
        have B8 := lH ((RB.out.trans (B7.out.mono RB.out.size)).trans b8)
        have X8 := lH x8
        clear pr8 b8 x8))
    have hn8 : n8 = k + 1 := by have := PR8.out.len; rw [this, List.length_append, <- RP.out.len]; rfl
    subst hn8
    go_roundw
    case rel =>
     refine ⟨k + 1, A8, c8, _, by omega, by go_num, rfl, PR8.out, ?_, B8.out, X8.out⟩
     rw [SN.out, <- RL.out]
     unfold puL
     rw [List.map_append]
     rfl
    case measure => simp [Go.RowKit.intOf]; omega
  · obtain rfl : k = n2 := by omega
    go_wp2_with fail
    go_ret
    refine ⟨A', c', rs, rfl, RP.out.base B2.out.size, ?_, B2.out.trans (RB.out.mono B2.out.size)⟩
    rw [RL.out, List.take_of_length_le (by rw [tPu_len, HN.out]; exact Nat.le_refl _)]
end
theorem wpList_loadT {P : Program} {ops : Array Oper} {rest : List Oper} {o : Oper} {a : Act} {w : World} {Q : Exit -> Act -> World -> Prop} (hw : Region.wanted o (yielded ops a.tmps) = true) (ty : TypeId) (x : Operand) (ho : o.op = .load ty x)
 (ad : Addr) (hx : a.eval x = .pointer (some ad)) (v : Value) (hl : (loadVar ty ad).run P w = .ok v w) (h : wpList P ops Q rest (a.put o.dst v) w) : wpList P ops Q (o :: rest) a w := by
 refine BigFrame.wpList_want hw fun K hK => ?_
 unfold Oper.wp execOp
 simp only [ho, hx, Instr.loadAt, Instr.sureAddr, Sem.run_bind, Sem.run_pure, Result.andThen_ok, hl]
 exact hK _ _ h
theorem load_tsecH {w : World} {B g o n : Nat} {l : List UInt8} (h : HasB w B (some ⟨g, o, none⟩) n l) (hl : l.length = 512) : (loadVar 190 ⟨g, o, none⟩).run Tryz.prog w = .ok (.agg (cellsB l).toArray) w := by
 obtain ⟨g', o', e, _, hc⟩ := h.2 (by have := h.1; omega)
 simp only [Option.some.injEq, Addr.mk.injEq, and_true] at e
 obtain ⟨rfl, rfl⟩ := e
 have hc' : (loadCells ⟨g, o, none⟩ (cellsB l).length).run Tryz.prog w = .ok (cellsB l).toArray w :=
  run_loadCells_list (P := Tryz.prog) w ⟨g, o, none⟩ (cellsB l) (fun j v hv => by
   obtain ⟨b, hb, rfl⟩ := cellsB_at hv
   rw [Addr.add_lit]
   exact hc j b hb)
 cases hq : Tryz.prog.info? 190 with
 | none => have := infoTsec; rw [hq] at this; cases this
 | some i =>
   have hs : i.size = (cellsB l).length := by have := infoTsec; rw [hq] at this; rw [cellsB_length, hl]; simpa using this
   simp [loadVar, Sem.run_bind, isAgg, run_underlying Tryz.underlying190 w, sizeOf, typeInfo, hq, hs, hc']
section
variable {w w' W : World} {gt g gd gp gm T h q n : Nat} {ws : List ByteArray} {M S B : Nat -> Prop} {v : Value} {Z : DK} {w0 : World} {p : Pt} {j : JM}
def RetWr (w : World) (gt g T h q : Nat) (ws : List ByteArray) (M : Nat -> Prop) (i : Nat) (l : List UInt8) (en : Ending) (w' : World) : Prop :=
 en = .returned (.int .i64 0) /\ ∃ M', TO w' gt g T h (q + 1) (ws.set i (strB l)) M' /\ (∀ k, M' k -> M k \/ (w.heap.size <= k /\ k < w'.heap.size)) /\ Only (fun k => k = gt) w w'
theorem tx_put {w4 : World} {D : DU} {pb : Nat -> Nat} {i b gm2 : Nat} {l : List UInt8} (a : TO w gt g T h q ws M) (hD : MapOfP D h ws pb) (hpb : ∀ i, i < h -> (ws.getD i emp).size ≠ 0 -> M (pb i) /\ Bw w (pb i) 190 (lst (ws.getD i emp)))
 (hb : w4.heap[gt]? = some (.cells (txC g T gm2) 92 (0, 0))) (hm : w4.ownsMap Tryz.prog 3 ptrElem gm2 (q + 1) (D.put (kI i) (.lit (.int .i64 (b : Int))))) (hB : Bw w4 b 190 l) (hl : l.length = 512) (hi : i < h)
 (ho : Only (fun k => k = gt) w w4) (h1 : w.heap.size <= b) (h2 : w.heap.size <= gm2) : ∃ M', TO w4 gt g T h (q + 1) (ws.set i (strB l)) M' /\ (∀ k, M' k -> M k \/ (w.heap.size <= k /\ k < w4.heap.size)) := by
 have hgt := a.lt
 obtain ⟨⟨gm, _, v⟩, ng, tn⟩ := a
 have hblt : b < w4.heap.size := (Array.getElem?_eq_some_iff.1 hB).1
 have hglt := hm.lt
 refine ⟨fun k => M k \/ k = b \/ k = gm2, ⟨⟨gm2, hb, ⟨_, _, hm, hD.put v.wl hi (by rw [strB_size]; omega) b, fun k hk hne => ?_⟩, .inr (.inr rfl), fun k hk => ?_, by rw [List.length_set]; exact v.wl, fun s hs => ?_, v.hh⟩, fun hh => ?_, tn⟩, fun k hk => ?_⟩
 · rw [getD_set _ _ _ _ (by rw [v.wl]; exact hi)] at hne ⊢
   by_cases e : i = k
   · subst e
     rw [if_pos rfl, if_pos rfl, lst_strB]
     exact ⟨.inr (.inl rfl), hB⟩
   · rw [if_neg e] at hne ⊢
     rw [if_neg (fun e' => e e'.symm)]
     obtain ⟨m1, m2⟩ := hpb k hk hne
     exact ⟨.inl m1, (ho.block _ (v.ml _ m1) (fun e' => ng (e' ▸ m1))).trans m2⟩
 · rcases hk with hk | rfl | rfl
   · exact Nat.lt_of_lt_of_le (v.ml _ hk) ho.size
   · exact hblt
   · exact hglt
 · rcases List.mem_or_eq_of_mem_set hs with hs | hs
   · exact v.wz s hs
   · subst hs; exact .inr (by rw [strB_size]; exact hl)
 · rcases hh with hh | hh | hh
   · exact ng hh
   · omega
   · omega
 · rcases hk with hk | rfl | rfl
   · exact .inl hk
   · exact .inr ⟨h1, hblt⟩
   · exact .inr ⟨h2, hglt⟩
theorem twrite_ok (a : TO w gt g T h q ws M) (u : UpB Z w0 w g gd gp n p j B) (ok : p.m.Ok n) (hjh : j.homes n = h) (i : Nat) (hi : i < h) (A : Option Addr) (c : Nat) (l : List UInt8) (hd : HasB w w.heap.size A 512 l) (hl : l.length = 512) (hc : 512 <= c)
 (hfit : (ws.getD i emp).size ≠ 0 \/ (frK ws h).length < 40) (hq : q < 1073741824) :
 Calls Tryz.prog 71 #[.pointer (some ⟨gt, 0, none⟩), .int .i64 (i : Int), .slice A 512 c] w (RetWr w gt g T h q ws M i l) := by
 have C := lH (tfin_any a)
 have CH := thomes_any a u ok
 rw [hjh] at CH
 have CHm := lH CH
 have AA := lH a
 obtain ⟨gm, c0, c1, c2, v, hblk⟩ := a.cells
 have hgt := a.lt
 have hh := v.hh
 obtain ⟨D, pb, hm, hD, hpb⟩ := v.ex
 obtain ⟨ga, oa, rfl, hga, _⟩ := hd.2 (by omega)
 have HM := lH hm
 have HD := lH hD
 have HPB := lH hpb
 have HDT := lH hd
 have HL := lH hl
 have HBK := lH hblk
 have hmlt := hm.lt
 have hih : (i : Int) < (h : Int) := by omega
 have HQ : Hid (q < 1073741824) := lH hq
 have CCL : Hid (∀ (W : World), W.ownsMap Tryz.prog 3 ptrElem gm q D -> Calls Tryz.prog 110 #[.map (some gm)] W fun e W' => e = .returned (.map (some W.heap.size)) /\ W'.ownsMap Tryz.prog 3 ptrElem W.heap.size q D /\ W'.ownsMap Tryz.prog 3 ptrElem gm q D /\ Below W.heap.size W W') := lH (fun W hW => AnyW.maps_Clone_owns cloneT 3 ptrElem gm q D W hW)
 have zc : ∀ W : World, Hid (Bw (W.alloc (.cells (cellsB zsec).toArray 190)) W.heap.size 190 zsec) := fun W => lH (Bw.new W zsec _)
 have ZC := lH zc
 obtain ⟨bt, hbt⟩ : ∃ bt, twB ws i = bt := ⟨_, rfl⟩
 have HBT := lH hbt
 have HF : Hid (bt = false -> (frK ws h).length < 40) := lH (fun e => by
  rcases hfit with h1 | h1
  · rw [<- hbt] at e
    exact absurd h1 (of_decide_eq_false e)
  · exact h1)
 obtain ⟨N, hN⟩ : ∃ N, (frK ws h).length = N := ⟨_, rfl⟩
 rw [hN] at HF
 have CT := ttouch_any a
 rw [hN] at CT
 clear a u ok hjh v hm hD hpb hd hl hfit hblk zc hbt CH hq CT
 go_enter Tryz.func71, Tryz.ntmps71
 go_upto_region 7 with (first
  | (go_at_call 39; refine C.out.mono ?_; rintro e w1 ⟨rfl, rfl⟩)
  | (go_at_call 92; refine CHm.out.mono ?_; rintro e w1 ⟨rfl, b1⟩
     have B1 := lH b1
     have A1 := lH (AA.out.below b1)
     have M1 := lH (ownsMap_onlyP HM.out (Only.of_below (S := fun _ => False) b1 (Nat.le_refl _)) (fun h => h))
     have k2 : w1.cell? ⟨gt, 2, none⟩ = some (.map (some gm)) := (b1.cell hgt).trans c2
     have k0 : w1.cell? ⟨gt, 0, none⟩ = some (.pointer (some ⟨g, 0, none⟩)) := (b1.cell hgt).trans c0
     have BK1 := lH ((b1.block _ hgt).trans HBK.out)
     have HD1 := lH (HDT.out.on b1)
     clear b1))
 have LD := lH (load_tsecH HD1.out HL.out)
 have TC := ttouch_any A1.out
 rw [hN] at TC
 have TCH := lH TC
 have hz1 : w.heap.size <= w1.heap.size := B1.out.size
 have hgt1 : gt < w1.heap.size := Nat.lt_of_lt_of_le hgt hz1
 clear TC hN
 cases bt
 all_goals
  try have hN40 : N < 40 := HF.out rfl
  go_upto_region 10 with (first
   | (refine wp_lookT rfl (.tmp 27) (.tmp 28) rfl rfl i rfl D pb M1.out HD.out hh hi ?_; rw [HBT.out])
   | (go_at_call 12; refine TCH.out.mono ?_; rintro e w2 ⟨rfl, rfl⟩))
  go_upto_region 11 with (first
   | (refine wpList_arrayAt (by rfl) 190 5 512 (.tmp 39) rfl Tryz.underlying190 _ 512 c rfl (Nat.le_refl _) ?_)
   | (refine wpList_loadT (by rfl) 190 (.tmp 40) rfl ⟨ga, oa, none⟩ rfl _ LD.out ?_)
   | (rw [zcT]; refine wp_store_tsec rfl (.tmp 9) (.tmp 41) rfl w1.heap.size l rfl rfl _ zsec (ZC.out w1).out zsec_len HL.out ?_; intro w3 h3 o3
      have H3 := lH h3
      have b3 : Below w1.heap.size w1 w3 := ((Below.refl _ w1).alloc (Nat.le_refl _) _).trans (o3.to_below (B := w1.heap.size) (fun k hk => by omega) (by simp))
      have B3 := lH b3
      have hz3 : w1.heap.size < w3.heap.size := (Array.getElem?_eq_some_iff.1 h3).1
      have k32 : w3.cell? ⟨gt, 2, none⟩ = some (.map (some gm)) := (b3.cell hgt1).trans k2
      have CC3 := lH (CCL.out w3 (ownsMap_onlyP M1.out (Only.of_below (S := fun _ => False) b3 (Nat.le_refl _)) (fun h => h)))
      have BK3 := lH ((b3.block _ hgt1).trans BK1.out)
      clear h3 o3 b3))
  obtain ⟨G, hG⟩ : ∃ G, w3.heap.size = G := ⟨_, rfl⟩
  have hG1 : w1.heap.size < G := by omega
  have HGG := lH hG
  rw [hG] at CC3
  clear hG
  go_upto_region 12 with (first
   | (go_at_call 110; refine CC3.out.mono ?_; rintro e w4 ⟨rfl, m4, _, b4⟩
      have b4' : Below w3.heap.size w3 w4 := by rw [HGG.out]; exact b4
      have hz4 : w1.heap.size < w4.heap.size := by have := b4'.size; omega
      have bk4 : w4.heap[gt]? = some (.cells (txC g T gm) 92 (0, 0)) := (b4'.block _ (by omega)).trans BK3.out
      have BK4 := lH bk4
      have k42 : w4.cell? ⟨gt, 2, none⟩ = some (.map (some gm)) := cell_of_row w4 gt 2 _ _ (0, 0) bk4
      have f42 : w4.frozen? ⟨gt, 2, none⟩ = false := frozen_of_row w4 gt 2 _ _ bk4
      have M4 := lH m4
      have B4 := lH b4'
      have BS4 := lH ((b4'.block _ hz3).trans H3.out)
      clear m4 b4 b4' bk4))
  have bk5 := heap_setCell_same w4 gt 2 _ _ (.map (some G)) BK4.out
  have BK5 : Hid ((w4.setCell ⟨gt, 2, none⟩ (.map (some G))).heap[gt]? = some (.cells (txC g T G) 92 (0, 0))) := lH bk5
  have Y5 : Hid (Only (fun k => k = gt) w4 (w4.setCell ⟨gt, 2, none⟩ (.map (some G)))) := lH ((Only.refl (fun k => k = gt) w4).setCell (p := ⟨gt, 2, none⟩) rfl _)
  have M5 := lH (ownsMap_onlyP M4.out Y5.out (show ¬ G = gt by omega))
  have k52 : (w4.setCell ⟨gt, 2, none⟩ (.map (some G))).cell? ⟨gt, 2, none⟩ = some (.map (some G)) := cell_of_row _ gt 2 _ _ (0, 0) BK5.out
  obtain ⟨w5, hw5⟩ : ∃ w5, w4.setCell ⟨gt, 2, none⟩ (.map (some G)) = w5 := ⟨_, rfl⟩
  rw [hw5]
  rw [hw5] at BK5 Y5 M5 k52
  have BS5 := lH ((Y5.out.block _ hz4 (show ¬ w1.heap.size = gt by omega)).trans BS4.out)
  clear hw5 bk5
  go_wp2_with (first
   | (at_mapUpdate; refine wpList_mapUpdate_own w5 rfl (.tmp 53) (.tmp 54) (.tmp 9) 90 rfl 3 150 intK Tryz.underlying90 ptrElem G q D rfl M5.out (by have := HQ.out; simp only [maxLen]; omega) _ _ (kI i) rfl rfl (keyI (by omega)) (.lit (.int .i64 (w1.heap.size : Int))) [] (ptrElem_mk _) ?_; intro w6 own6 g6
      have OW6 := lH own6
      have O6 := lH (Only.grown g6)
      clear own6 g6))
  have y6 : Only (fun k => k = gt) w w6 := by
   have a1 : Only (fun k => k = gt \/ w1.heap.size <= k) w1 w6 := ((Only.of_below B3.out (Nat.le_refl _)).trans (Only.of_below B4.out (by omega))).trans ((Y5.out.mono (fun k _ hk => .inl hk)).trans (O6.out.mono (fun k _ hk => .inr (by omega))))
   refine (Only.of_below B1.out (Nat.le_refl _)).trans ?_
   exact a1.mono (fun k hk hk2 => hk2.elim id (fun h => by omega))
  have YY := lH y6
  have TP := lH (tx_put (gm2 := G) (b := w1.heap.size) (l := l) AA.out HD.out HPB.out ((O6.out.block _ (Array.getElem?_eq_some_iff.1 BK5.out).1 (show ¬ gt = G by omega)).trans BK5.out) OW6.out ((O6.out.block _ (Array.getElem?_eq_some_iff.1 BS5.out).1 (show ¬ w1.heap.size = G by omega)).trans BS5.out) HL.out hi y6 hz1 (by omega))
  clear y6
  go_ret
  obtain ⟨M', t1, t2⟩ := TP.out
  exact ⟨rfl, M', t1, t2, YY.out⟩
end
end Go.Proofs.YthoebjekkfhhgaaGreat
