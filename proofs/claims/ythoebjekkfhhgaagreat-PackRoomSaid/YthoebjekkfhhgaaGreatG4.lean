/-
  Own work.
-/
import Derived.Test.YthoebjekkfhhgaaGreatCp9
import Derived.Test.YthoebjekkfhhgaaGreatG2
import Derived.Maps.Range
import Derived.Maps.RangeWalk
import Derived.Lib.SlKeysI
import Derived.Lib.SliceRun
set_option linter.unusedVariables false
set_option linter.unusedSimpArgs false
set_option maxRecDepth 100000
set_option maxHeartbeats 8000000
namespace Go.Proofs.YthoebjekkfhhgaaGreat
open Go.RowKit Go.Maps
abbrev DU := DataW Unit
theorem lst_len (s : ByteArray) : (lst s).length = s.size := rfl
def unByte : Value -> Option UInt8
 | .int .u8 a => if 0 <= a /\ a < 256 then some (UInt8.ofNat a.toNat) else none
 | _ => none
def unBytes : List Value -> Option (List UInt8)
 | [] => some []
 | v :: r => match unByte v, unBytes r with
   | some b, some l => some (b :: l)
   | _, _ => none
def secElem (v : Value) : Option (DU × List MemPlace) :=
 match v with
 | .agg cs => match unBytes cs.toList with
   | some l => if l.length = 512 then some (.lit (.string l), []) else none
   | none => none
 | _ => none
theorem unByte_mk (b : UInt8) : unByte (.int .u8 (b.toNat : Int)) = some b := by
 have h := b.toNat_lt
 show (if 0 <= (b.toNat : Int) /\ (b.toNat : Int) < 256 then some (UInt8.ofNat (b.toNat : Int).toNat) else none) = some b
 rw [if_pos (by constructor <;> omega)]
 simp
theorem unBytes_mk : ∀ l : List UInt8, unBytes (cellsB l) = some l
 | [] => rfl
 | b :: r => by
   have h2 := unBytes_mk r
   have h1 := unByte_mk b
   unfold cellsB at h2 ⊢
   rw [List.map_cons, unBytes, h1, h2]
theorem unByte_inv {v : Value} {b : UInt8} (h : unByte v = some b) : v = .int .u8 (b.toNat : Int) := by
 unfold unByte at h
 split at h
 · split at h
   · rename_i a hc
     simp only [Option.some.injEq] at h
     rw [<- h]
     congr 1
     have : (UInt8.ofNat a.toNat).toNat = a.toNat % 256 := by simp
     rw [this]
     omega
   · cases h
 · cases h
theorem unBytes_inv : ∀ {vs : List Value} {l : List UInt8}, unBytes vs = some l -> vs = cellsB l
 | [], l, h => by
   simp only [unBytes, Option.some.injEq] at h
   subst h
   rfl
 | v :: r, l, h => by
   unfold unBytes at h
   split at h
   · rename_i b l' hb hl
     simp only [Option.some.injEq] at h
     subst h
     rw [unByte_inv hb, unBytes_inv hl]
     rfl
   · cases h
theorem secElem_mk {l : List UInt8} (h : l.length = 512) : secElem (.agg (cellsB l).toArray) = some (.lit (.string l), []) := by
 show (match unBytes (cellsB l) with | some l => if l.length = 512 then some ((DataW.lit (.string l) : DU), ([] : List MemPlace)) else none | none => none) = _
 rw [unBytes_mk]
 show (if l.length = 512 then _ else _) = _
 rw [if_pos h]
theorem secElem_inv {v : Value} {y : DU × List MemPlace} (h : secElem v = some y) : ∃ l : List UInt8, v = .agg (cellsB l).toArray /\ l.length = 512 /\ y = (.lit (.string l), []) := by
 unfold secElem at h
 split at h
 · rename_i cs
   split at h
   · rename_i l hl
     split at h
     · rename_i hlen
       simp only [Option.some.injEq] at h
       refine ⟨l, ?_, hlen, h.symm⟩
       rw [<- unBytes_inv hl]
     · cases h
   · cases h
 · cases h
def kI (i : Nat) : Lit := .int .i64 (i : Int)
theorem kI_key (i : Nat) : WideAt.IsKeyLit (kI i) := by unfold kI; simp [WideAt.IsKeyLit]
theorem kI_inj {i j : Nat} (h : kI i = kI j) : i = j := by
 unfold kI at h
 injection h with _ h
 omega
structure MapOf (D : DU) (n : Nat) (wait : List ByteArray) : Prop where
 ism : IsMap D
 hs : ∀ kl, Maps.has D kl = true -> ∃ i : Nat, i < n /\ kl = kI i
 hi : ∀ i, i < n -> Maps.has D (kI i) = decide ((wait.getD i emp).size ≠ 0)
 at_ : ∀ i, i < n -> (wait.getD i emp).size ≠ 0 -> ∀ z, D.atKey (kI i) z = .lit (.string (lst (wait.getD i emp)))
theorem MapOf.put {D : DU} {n : Nat} {wait : List ByteArray} (h : MapOf D n wait) (hw : wait.length = n) {i : Nat} (hi : i < n) {s : ByteArray} (hs : s.size ≠ 0) : MapOf (D.put (kI i) (.lit (.string (lst s)))) n (wait.set i s) := by
 refine ⟨h.ism.put _ _, fun kl hk => ?_, fun j hj => ?_, fun j hj hne z => ?_⟩
 · by_cases e : kl = kI i
   · exact ⟨i, hi, e⟩
   · rw [has_put_other e] at hk
     exact h.hs kl hk
 · rw [getD_set _ _ _ _ (by omega)]
   by_cases e : i = j
   · subst e
     rw [has_put_same h.ism (kI_key i), if_pos rfl, eq_comm, decide_eq_true_iff]
     exact hs
   · rw [has_put_other (fun e' => e (kI_inj e').symm), if_neg e]
     exact h.hi j hj
 · rw [getD_set _ _ _ _ (by omega)] at hne ⊢
   by_cases e : i = j
   · subst e
     rw [atKey_put_same h.ism (kI_key i), if_pos rfl]
   · rw [atKey_put_other (fun e' => e (kI_inj e').symm)]
     rw [if_neg e] at hne ⊢
     exact h.at_ j hj hne z
theorem MapOf.none (n : Nat) (wait : List ByteArray) (h : ∀ i, i < n -> (wait.getD i emp).size = 0) : MapOf (.map []) n wait :=
 ⟨isMap_empty, fun kl hk => by simp [Maps.has] at hk, fun i hi => by rw [h i hi]; simp [Maps.has], fun i hi hne => absurd (h i hi) hne⟩
theorem MapOf.no {D : DU} {n : Nat} {wait : List ByteArray} (h : MapOf D n wait) {i : Nat} (hi : i < n) (hw : (wait.getD i emp).size = 0) (z : DU) : D.atKey (kI i) z = z :=
 atKey_of_not_has (by rw [h.hi i hi, hw]; rfl) z
theorem MapOf.keys {D : DU} {n : Nat} {m : RM} (h : MapOf D n m.wait) {es : List (Lit × DU)} (hD : D = .map es) (hp : es.Pairwise (fun p q => p.1 ≠ q.1)) (hk : ∀ p ∈ es, WideAt.IsKeyLit p.1) :
 ((m.wtK n).map fun (i : Nat) => (i : Int)).Perm (intKeys D) := by
 subst hD
 refine perm_intKeys hp (fun p hp' => ?_) ?_ (fun x => ?_)
 · obtain ⟨i, _, e⟩ := h.hs p.1 (List.any_eq_true.2 ⟨p, hp', WideAt.sameKey_self (hk p hp')⟩)
   exact ⟨_, e⟩
 · refine List.pairwise_map.2 ((List.Pairwise.filter _ (List.nodup_range (n := n))).imp ?_)
   intro a b hne e
   exact hne (by omega)
 · rw [List.mem_map]
   constructor
   · rintro ⟨i, hi, rfl⟩
     unfold RM.wtK at hi
     rw [List.mem_filter, List.mem_range] at hi
     show Maps.has _ (kI i) = true
     rw [h.hi i hi.1]
     exact hi.2
   · intro hx
     obtain ⟨i, hi, e⟩ := h.hs _ hx
     have ei : x = (i : Int) := by
      unfold kI at e
      injection e
     subst ei
     refine ⟨i, ?_, rfl⟩
     have hx' : Maps.has (.map es) (kI i) = true := hx
     rw [h.hi i hi] at hx'
     unfold RM.wtK
     rw [List.mem_filter, List.mem_range]
     exact ⟨hi, hx'⟩
theorem RM.wtK_sorted (m : RM) (n : Nat) : ((m.wtK n).map fun (i : Nat) => (i : Int)).mergeSort leI = (m.wtK n).map fun (i : Nat) => (i : Int) := by
 refine List.mergeSort_of_pairwise ?_
 refine List.pairwise_map.2 ?_
 refine (List.Pairwise.filter _ (List.pairwise_lt_range (n := n))).imp ?_
 intro a b hlt
 simp only [leI, decide_eq_true_eq]
 omega
def flat (l : List ByteArray) : List UInt8 := l.flatMap lst
theorem flat_cons (s : ByteArray) (r : List ByteArray) : flat (s :: r) = lst s ++ flat r := rfl
theorem flat_len : ∀ {l : List ByteArray}, (∀ s ∈ l, s.size = 512) -> (flat l).length = 512 * l.length
 | [], _ => rfl
 | s :: r, h => by
   rw [flat_cons, List.length_append, lst_len, h s (by simp), flat_len (l := r) (fun t ht => h t (by simp [ht])), List.length_cons]
   omega
theorem flat_sub : ∀ {l : List ByteArray}, (∀ s ∈ l, s.size = 512) -> ∀ {i : Nat} {s : ByteArray}, l[i]? = some s -> ∀ j b, (lst s)[j]? = some b -> (flat l)[512 * i + j]? = some b
 | [], _, i, s, h, _, _, _ => by simp at h
 | t :: r, hs, 0, s, h, j, b, hb => by
   simp only [List.getElem?_cons_zero, Option.some.injEq] at h
   subst h
   rw [flat_cons, Nat.mul_zero, Nat.zero_add, List.getElem?_append_left (List.getElem?_eq_some_iff.1 hb).1]
   exact hb
 | t :: r, hs, i + 1, s, h, j, b, hb => by
   have ht : (lst t).length = 512 := hs t (by simp)
   rw [flat_cons, List.getElem?_append_right (by rw [ht]; omega), ht]
   rw [show 512 * (i + 1) + j - 512 = 512 * i + j from by omega]
   exact flat_sub (l := r) (fun t ht => hs t (by simp [ht])) (by simpa using h) j b hb
theorem flat_set : ∀ {l : List ByteArray}, (∀ s ∈ l, s.size = 512) -> ∀ {i : Nat}, i < l.length -> ∀ s : ByteArray, flat (l.set i s) = (flat l).take (512 * i) ++ lst s ++ (flat l).drop (512 * i + 512)
 | [], _, i, h, _ => by simp at h
 | t :: r, hs, 0, h, s => by
   have ht : (lst t).length = 512 := hs t (by simp)
   rw [List.set_cons_zero, flat_cons, flat_cons, Nat.mul_zero, List.take_zero, List.nil_append, Nat.zero_add, <- ht, List.drop_left]
 | t :: r, hs, i + 1, h, s => by
   have ht : (lst t).length = 512 := hs t (by simp)
   rw [List.set_cons_succ, flat_cons, flat_cons, flat_set (l := r) (fun t ht => hs t (by simp [ht])) (by simpa using h) s]
   have e1 : (lst t).take (512 * (i + 1)) = lst t := List.take_of_length_le (by rw [ht]; omega)
   have e2 : (lst t).drop (512 * (i + 1) + 512) = [] := List.drop_eq_nil_of_le (by rw [ht]; omega)
   rw [List.take_append, List.drop_append, e1, e2, ht]
   rw [show 512 * (i + 1) - 512 = 512 * i from by omega, show 512 * (i + 1) + 512 - 512 = 512 * i + 512 from by omega]
   simp [List.append_assoc]
theorem flat_rep (n : Nat) : flat (List.replicate n ⟨(zer 512).toArray⟩) = zer (512 * n) := by
 induction n with
 | zero => rfl
 | succ n ih =>
   rw [List.replicate_succ, flat_cons, ih]
   show zer 512 ++ zer (512 * n) = _
   unfold zer
   rw [List.replicate_append_replicate]
   congr 1
   omega
structure PX where
 L : Int
 sc : Int
 TA : Option Addr
 tn : Nat
 tc : Nat
 tl : List UInt8
 cd : Nat
 ex : List Value
def pdC (gd gp n : Nat) (m : RM) (x : PX) : Array Value :=
 #[.slice (some ⟨gd, 0, none⟩) n x.cd, .map (some gp), .bool m.off, .bool (decide (0 <= m.arms)), .int .i64 x.L, .int .i64 m.part, .int .i64 x.sc, .slice x.TA x.tn x.tc, .int .i64 (m.wrote : Int), .int .i64 (m.powers : Int)]
theorem OwnB.only {S : Nat -> Prop} {w w' : World} {base : Nat} {v : Value} {l : List UInt8} (h : OwnB w base v l) (ho : Only S w w') (hS : ∀ k, v.ownBlock = some k -> ¬ S k) : OwnB w' base v l := by
 refine ⟨h.1, ?_⟩
 rcases h.2 with h2 | ⟨g, c, cur, e, h3, hg, r⟩
 · exact .inl h2
 · exact .inr ⟨g, c, cur, e, h3, by rw [ho.block g (Array.getElem?_eq_some_iff.1 hg).1 (hS g (by rw [e]; rfl))]; exact hg, r⟩
def RowB (w : World) (g : Nat) (t : TypeId) (l : List UInt8) (E : List Value) : Prop := w.heap[g]? = some (.cells (cellsB l ++ E).toArray t (0, 0))
theorem RowB.lt {w : World} {g : Nat} {t : TypeId} {l : List UInt8} {E : List Value} (h : RowB w g t l E) : g < w.heap.size := (Array.getElem?_eq_some_iff.1 h).1
theorem RowB.far {w : World} {g : Nat} {t : TypeId} {l : List UInt8} {E : List Value} (h : RowB w g t l E) {p : Addr} (hp : g ≠ p.block) (u : Value) : RowB (w.setCell p u) g t l E := (heap_setCell_other w p g u hp).trans h
theorem Only.cell1 {w w' : World} {g : Nat} (h : Only (fun j => j = g) w w') (k : Nat) (v : Value) : Only (fun j => j = g) w (w'.setCell ⟨g, k, none⟩ v) := Only.setCell (S := fun j => j = g) h (p := ⟨g, k, none⟩) rfl v
structure PrD (w : World) (g gd gp n : Nat) (m : RM) (x : PX) (D : DU) : Prop where
 blk : w.heap[g]? = some (.cells (pdC gd gp n m x) 182 (0, 0))
 row : RowB w gd 235 (flat m.last) x.ex
 map : w.ownsMap Tryz.prog 3 secElem gp m.wrote D
 mo : MapOf D n m.wait
 tr : OwnB w 0 (.slice x.TA x.tn x.tc) x.tl
 ar : 0 <= m.arms -> x.L = m.arms
 wy : (m.way < 0 -> x.sc = 0 /\ x.tl = []) /\ (0 <= m.way -> x.sc = m.way /\ x.tl = lst m.coming)
 d1 : g ≠ gd
 d2 : g ≠ gp
 d3 : gd ≠ gp
 dt : ∀ k, (Value.slice x.TA x.tn x.tc).ownBlock = some k -> k ≠ g /\ k ≠ gd /\ k ≠ gp
def PrB (g gd gp : Nat) (x : PX) (k : Nat) : Prop := k = g \/ k = gd \/ k = gp \/ (Value.slice x.TA x.tn x.tc).ownBlock = some k
section
variable {S : Nat -> Prop} {w w' : World} {g gd gp n : Nat} {m m' : RM} {x : PX} {D : DU}
theorem ownsMap_only {b c : Nat} (h : w.ownsMap Tryz.prog 3 secElem b c D) (ho : Only S w w') (hS : ¬ S b) : w'.ownsMap Tryz.prog 3 secElem b c D := by
 have hlt := h.lt
 obtain ⟨es, clock, hb, r⟩ := h
 exact ⟨es, clock, (ho.block b hlt hS).trans hb, r⟩
theorem PrD.only (h : PrD w g gd gp n m x D) (ho : Only S w w') (hS : ∀ k, PrB g gd gp x k -> ¬ S k) : PrD w' g gd gp n m x D :=
 ⟨(ho.block g (Array.getElem?_eq_some_iff.1 h.blk).1 (hS g (.inl rfl))).trans h.blk, (ho.block gd h.row.lt (hS gd (.inr (.inl rfl)))).trans h.row, ownsMap_only h.map ho (hS gp (.inr (.inr (.inl rfl)))), h.mo,
   h.tr.only ho (fun k hk => hS k (.inr (.inr (.inr hk)))), h.ar, h.wy, h.d1, h.d2, h.d3, h.dt⟩
theorem PrD.lt (h : PrD w g gd gp n m x D) : ∀ k, PrB g gd gp x k -> k < w.heap.size := by
 rintro k (rfl | rfl | rfl | hk)
 · exact (Array.getElem?_eq_some_iff.1 h.blk).1
 · exact h.row.lt
 · exact h.map.lt
 · exact (h.tr.lt k hk).2
theorem PrD.drew (h : PrD w g gd gp n m x D) : PrD w.drew g gd gp n m x D := ⟨h.blk, h.row, h.map, h.mo, h.tr, h.ar, h.wy, h.d1, h.d2, h.d3, h.dt⟩
theorem PrD.cell (h : PrD w g gd gp n m x D) (k : Nat) : w.cell? ⟨g, k, none⟩ = (pdC gd gp n m x)[k]? := cell_of_row w g k _ _ (0, 0) h.blk
theorem PrD.frozen (h : PrD w g gd gp n m x D) (k : Nat) : w.frozen? ⟨g, k, none⟩ = false := frozen_of_row w g k _ _ h.blk
theorem PrD.put (h : PrD w g gd gp n m x D) (k : Nat) (v : Value) {x' : PX} (e : (pdC gd gp n m x).setIfInBounds k v = pdC gd gp n m' x') (h1 : m'.last = m.last) (h2 : m'.wait = m.wait) (h3 : m.wrote <= m'.wrote)
 (h4 : x'.TA = x.TA /\ x'.tn = x.tn /\ x'.tc = x.tc /\ x'.tl = x.tl) (h5 : 0 <= m'.arms -> x'.L = m'.arms) (h6 : (m'.way < 0 -> x'.sc = 0 /\ x'.tl = []) /\ (0 <= m'.way -> x'.sc = m'.way /\ x'.tl = lst m'.coming)) (h7 : x'.ex = x.ex := by rfl) :
 PrD (w.setCell ⟨g, k, none⟩ v) g gd gp n m' x' D := by
 obtain ⟨a1, a2, a3, a4⟩ := h4
 have ho : Only (fun k => k = g) w (w.setCell ⟨g, k, none⟩ v) := (Only.refl _ w).cell1 k v
 refine ⟨?_, ?_, ?_, ?_, ?_, h5, h6, h.d1, h.d2, h.d3, ?_⟩
 · rw [heap_setCell_same w g k _ _ v h.blk, e]
 · rw [h1, h7]; exact h.row.far (fun e => h.d1 e.symm) v
 · exact (ownsMap_only h.map ho (fun e => h.d2 e.symm)).mono h3
 · rw [h2]; exact h.mo
 · rw [a1, a2, a3, a4]; exact h.tr.only ho (fun k hk e => (h.dt k hk).1 e)
 · rw [a1, a2, a3]; exact h.dt
theorem PrD.du (h : PrD w g gd gp n m x D) : w.cell? ⟨g, 0, none⟩ = some (.slice (some ⟨gd, 0, none⟩) n x.cd) := h.cell 0
theorem PrD.pm (h : PrD w g gd gp n m x D) : w.cell? ⟨g, 1, none⟩ = some (.map (some gp)) := h.cell 1
theorem PrD.of (h : PrD w g gd gp n m x D) : w.cell? ⟨g, 2, none⟩ = some (.bool m.off) := h.cell 2
theorem PrD.ad (h : PrD w g gd gp n m x D) : w.cell? ⟨g, 3, none⟩ = some (.bool (decide (0 <= m.arms))) := h.cell 3
theorem PrD.lf (h : PrD w g gd gp n m x D) : w.cell? ⟨g, 4, none⟩ = some (.int .i64 x.L) := h.cell 4
theorem PrD.pt (h : PrD w g gd gp n m x D) : w.cell? ⟨g, 5, none⟩ = some (.int .i64 m.part) := h.cell 5
theorem PrD.wr (h : PrD w g gd gp n m x D) : w.cell? ⟨g, 8, none⟩ = some (.int .i64 (m.wrote : Int)) := h.cell 8
theorem PrD.pw (h : PrD w g gd gp n m x D) : w.cell? ⟨g, 9, none⟩ = some (.int .i64 (m.powers : Int)) := h.cell 9
end
def RetV (w : World) (v : Value) (e : Ending) (w' : World) : Prop := e = .returned v /\ w = w'
section
variable {w : World} {g gd gp n : Nat} {m : RM} {x : PX} {D : DU}
theorem pnone_any (h : PrD w g gd gp n m x D) (ok : m.Ok n) : Calls Tryz.prog 134 #[.pointer (some ⟨g, 0, none⟩)] w (RetV w (.bool false)) := by
 have c0 := h.du
 have n1 := ok.n1
 have n2 := ok.n2
 clear h ok
 have e0 : ((n : Int) == 0) = false := by rw [beq_eq_false_iff_ne]; omega
 go_enter Tryz.func134, Tryz.ntmps134
 go_wp2_with fail
 go_ret
 exact ⟨rfl, rfl⟩
def RM.pE (m : RM) : Int := if m.off = true then 8 else 0
theorem ppower_chk (h : PrD w g gd gp n m x D) (ok : m.Ok n) : Calls Tryz.prog 158 #[.pointer (some ⟨g, 0, none⟩)] w (RetV w (.int .i64 m.pE)) := by
 have c2 := h.of
 have N := lH (pnone_any h ok)
 clear h
 unfold RM.pE
 by_cases ho : m.off = true
 · rw [if_pos ho]
   rw [ho] at c2
   go_enter Tryz.func158, Tryz.ntmps158
   go_wp2_with (go_at_call 134; refine N.out.mono ?_; rintro e w1 ⟨rfl, rfl⟩)
   go_ret
   exact ⟨rfl, rfl⟩
 · rw [if_neg ho]
   rw [Bool.not_eq_true] at ho
   rw [ho] at c2
   go_enter Tryz.func158, Tryz.ntmps158
   go_wp2_with (go_at_call 134; refine N.out.mono ?_; rintro e w1 ⟨rfl, rfl⟩)
   go_ret
   exact ⟨rfl, rfl⟩
theorem pcheck (i : Int) (h : PrD w g gd gp n m x D) (ok : m.Ok n) (hi : -9223372036854775808 <= i /\ i <= 9223372036854775807) : Calls Tryz.prog 160 #[.pointer (some ⟨g, 0, none⟩), .int .i64 i] w (RetV w (.int .i64 (m.readE n i))) := by
 have c0 := h.du
 have n1 := ok.n1
 have n2 := ok.n2
 have N := lH (ppower_chk h ok)
 clear h ok
 obtain ⟨hi1, hi2⟩ := hi
 unfold RM.readE
 unfold RM.pE at N
 by_cases ho : m.off = true
 · rw [if_pos ho] at N ⊢
   clear ho
   go_enter Tryz.func160, Tryz.ntmps160
   go_wp2_with (go_at_call 158; refine N.out.mono ?_; rintro e w1 ⟨rfl, rfl⟩)
   go_ret
   exact ⟨rfl, rfl⟩
 · rw [if_neg ho] at N ⊢
   clear ho
   by_cases h1 : i < 0
   · rw [if_pos (Or.inl h1)]
     go_enter Tryz.func160, Tryz.ntmps160
     go_wp2_with (go_at_call 158; refine N.out.mono ?_; rintro e w1 ⟨rfl, rfl⟩)
     go_ret
     exact ⟨rfl, rfl⟩
   · by_cases h2 : (n : Int) <= i
     · rw [if_pos (Or.inr h2)]
       go_enter Tryz.func160, Tryz.ntmps160
       go_wp2_with (go_at_call 158; refine N.out.mono ?_; rintro e w1 ⟨rfl, rfl⟩)
       go_ret
       exact ⟨rfl, rfl⟩
     · rw [if_neg (by omega)]
       go_enter Tryz.func160, Tryz.ntmps160
       go_wp2_with (go_at_call 158; refine N.out.mono ?_; rintro e w1 ⟨rfl, rfl⟩)
       go_ret
       exact ⟨rfl, rfl⟩
theorem plen (h : PrD w g gd gp n m x D) (ok : m.Ok n) : Calls Tryz.prog 103 #[.pointer (some ⟨g, 0, none⟩)] w (RetV w (.int .i64 (n : Int))) := by
 have c0 := h.du
 have n1 := ok.n1
 have n2 := ok.n2
 have N := lH (pnone_any h ok)
 clear h ok
 go_enter Tryz.func103, Tryz.ntmps103
 go_wp2_with (go_at_call 134; refine N.out.mono ?_; rintro e w1 ⟨rfl, rfl⟩)
 go_ret
 exact ⟨rfl, rfl⟩
theorem plives (h : PrD w g gd gp n m x D) (ok : m.Ok n) : Calls Tryz.prog 107 #[.pointer (some ⟨g, 0, none⟩)] w (RetV w (.int .i64 (m.powers : Int))) := by
 have c9 := h.pw
 have N := lH (pnone_any h ok)
 clear h ok
 go_enter Tryz.func107, Tryz.ntmps107
 go_wp2_with (go_at_call 134; refine N.out.mono ?_; rintro e w1 ⟨rfl, rfl⟩)
 go_ret
 exact ⟨rfl, rfl⟩
end
def RetP (w : World) (g gd gp n : Nat) (x : PX) (D : DU) (v : Value) (m' : RM) (e : Ending) (w' : World) : Prop :=
 e = .returned v /\ (∃ x', PrD w' g gd gp n m' x' D /\ x'.TA = x.TA /\ x'.tn = x.tn /\ x'.tc = x.tc) /\ Only (fun k => k = g) w w'
section
variable {w : World} {g gd gp n : Nat} {m : RM} {x : PX} {D : DU}
theorem pfails (h : PrD w g gd gp n m x D) (ok : m.Ok n) : Calls Tryz.prog 159 #[.pointer (some ⟨g, 0, none⟩)] w (RetP w g gd gp n x D (.bool (!m.goB)) m.goM) := by
 have c3 := h.ad
 have c4 := h.lf
 have c2 := h.of
 have f2 := h.frozen 2
 have f4 := h.frozen 4
 obtain ⟨a1, a2⟩ := ok.ar
 have H := lH h
 clear h ok
 by_cases h1 : m.arms < 0
 · have e1 : m.goB = true := by unfold RM.goB; rw [decide_eq_true_iff]; omega
   have e2 : m.goM = m := by unfold RM.goM; rw [if_pos h1]
   have e3 : decide (0 <= m.arms) = false := by rw [decide_eq_false_iff_not]; omega
   rw [e1, e2]
   rw [e3] at c3
   clear e1 e2 e3 a1 a2
   go_enter Tryz.func159, Tryz.ntmps159
   go_wp2_with fail
   go_ret
   exact ⟨rfl, ⟨x, H.out, rfl, rfl, rfl⟩, Only.refl _ _⟩
 · have e3 : decide (0 <= m.arms) = true := by rw [decide_eq_true_iff]; omega
   rw [e3] at c3
   have eL := H.out.ar (by omega)
   obtain ⟨a, ha⟩ : ∃ a, m.arms = a := ⟨_, rfl⟩
   rw [eL, ha] at c4
   rw [ha] at a1 a2 h1
   have HA := lH ha
   have HL := lH eL
   clear ha e3 eL
   by_cases h2 : 0 < a
   · have e1 : m.goB = true := by unfold RM.goB; rw [HA.out, decide_eq_true_iff]; omega
     have e2 : m.goM = { m with arms := a - 1 } := by unfold RM.goM; rw [HA.out, if_neg h1, if_pos h2]
     rw [e1, e2]
     clear e1 e2
     go_enter Tryz.func159, Tryz.ntmps159
     go_wp2_with fail
     go_ret
     refine ⟨rfl, ⟨{ x with L := a - 1 }, H.out.put 4 (.int .i64 (a - 1)) ?_ rfl rfl (Nat.le_refl _) ⟨rfl, rfl, rfl, rfl⟩ (fun _ => rfl) H.out.wy, rfl, rfl, rfl⟩, (Only.refl _ _).cell1 _ _⟩
     have eb : decide (0 <= m.arms) = decide (0 <= a - 1) := by rw [HA.out, Bool.eq_iff_iff, decide_eq_true_iff, decide_eq_true_iff]; omega
     unfold pdC
     rw [eb]
     rfl
   · have h0 : a = 0 := by omega
     subst h0
     have e1 : m.goB = false := by unfold RM.goB; rw [HA.out]; rfl
     have e2 : m.goM = { m with off := true } := by unfold RM.goM; rw [HA.out, if_neg (by omega), if_neg (by omega)]
     rw [e1, e2]
     clear e1 e2
     go_enter Tryz.func159, Tryz.ntmps159
     go_wp2_with fail
     go_ret
     exact ⟨rfl, ⟨x, H.out.put 2 (.bool true) rfl rfl rfl (Nat.le_refl _) ⟨rfl, rfl, rfl, rfl⟩ H.out.ar H.out.wy, rfl, rfl, rfl⟩, (Only.refl _ _).cell1 _ _⟩
end
theorem wpList_allocW {P : Program} {ops : Array Oper} {rest : List Oper} {o : Oper} {a : Act} {w : World} {Q : Exit -> Act -> World -> Prop} (hg : o.guard = none) (t : TypeId) (ho : o.op = .alloc t) (cells : Array Value) (hz : (P.info? t).bind (·.zero) = some (.agg cells))
 (h : wpList P ops Q rest (a.put o.dst (.pointer (some ⟨w.heap.size, 0, none⟩))) (w.alloc (.cells cells t))) : wpList P ops Q (o :: rest) a w := by
 refine wpList_plain hg fun K hK => ?_
 cases hi : P.info? t with
 | none => simp [hi] at hz
 | some i =>
   simp only [hi, Option.bind_some] at hz
   unfold Oper.wp
   simp [execOp, ho, Instr.alloc, zeroValue, typeInfo, hi, hz, Result.andThen, newVar]
   exact hK _ _ h
theorem zeroSecI : (Tryz.prog.info? 235).bind (·.zero) = some (.agg (cellsB (zer 512)).toArray) := by kernel_rfl
theorem infoSec : (Tryz.prog.info? 235).map (·.size) = some 512 := by kernel_rfl
theorem sizeSec {l : List UInt8} (h : l.length = 512) : (Tryz.prog.info? 235).map (·.size) = some (cellsB l).toArray.size := by
 rw [cellsB_size, h]; exact infoSec
theorem zeroSecRun (w : World) : (zeroValue 235).run Tryz.prog w = .ok (.agg (cellsB (zer 512)).toArray) w := by
 have h := zeroSecI
 cases hi : Tryz.prog.info? 235 with
 | none => simp [hi] at h
 | some i =>
   simp only [hi, Option.bind_some] at h
   simp [zeroValue, typeInfo, hi, h, Result.andThen]
theorem intK : Keyed Tryz.prog 3 := int_keyed Tryz.underlying3
theorem keyI {i : Nat} (h : i < 4096) : keyOf Tryz.prog 3 (.int .i64 (i : Int)) = some (kI i) := keyOf_int_mk Tryz.underlying3 (by
 have hm : IntKind.i64.min = -9223372036854775808 := rfl
 have hM : IntKind.i64.max = 9223372036854775807 := rfl
 simp [Lit.wf, hm, hM]
 omega)
section
variable {S : Nat -> Prop} {w w' : World} {g gd gp n : Nat} {m m' : RM} {x x' : PX} {D : DU}
theorem PrD.load (h : PrD w g gd gp n m x D) (ok : m.Ok n) {i : Nat} (hi : i < n) : (loadVar 235 ⟨gd, i * 512, none⟩).run Tryz.prog w = .ok (.agg (cellsB (lst (m.last.getD i emp))).toArray) w := by
 have hl : m.last[i]? = some (m.last.getD i emp) := by
  rw [List.getD_eq_getElem?_getD]
  obtain ⟨s, hs⟩ : ∃ s, m.last[i]? = some s := ⟨_, List.getElem?_eq_getElem (by rw [ok.nl]; exact hi)⟩
  rw [hs]; rfl
 have hs : (m.last.getD i emp).size = 512 := ok.ls _ (List.mem_of_getElem? hl)
 refine run_loadVar_part w gd (i * 512) _ 235 (cellsB (flat m.last) ++ x.ex) (cellsB (lst (m.last.getD i emp))) (0, 0) _ h.row Tryz.underlying235 rfl (by rw [cellsB_length, lst_len, hs]; exact infoSec) (fun j v hv => ?_)
 obtain ⟨b, hb, rfl⟩ := cellsB_at hv
 have := flat_sub ok.ls hl j b hb
 rw [Nat.mul_comm] at this
 rw [List.getElem?_append_left (by rw [cellsB_length]; exact (List.getElem?_eq_some_iff.1 this).1)]
 simp [cellsB, this]
def pendL (m : RM) (k : Nat) : List UInt8 := if (m.wait.getD k emp).size = 0 then zer 512 else lst (m.wait.getD k emp)
def pendB (m : RM) (k : Nat) : Bool := decide ((m.wait.getD k emp).size ≠ 0)
theorem RM.Ok.wsz (ok : m.Ok n) {k : Nat} (hk : k < n) : (m.wait.getD k emp).size = 0 \/ (m.wait.getD k emp).size = 512 := by
 refine ok.ws _ ?_
 rw [List.getD_eq_getElem?_getD, List.getElem?_eq_getElem (by rw [ok.nw]; exact hk)]
 exact List.getElem_mem _
theorem RM.Ok.lsz (ok : m.Ok n) {k : Nat} (hk : k < n) : (m.last.getD k emp).size = 512 := by
 refine ok.ls _ ?_
 rw [List.getD_eq_getElem?_getD, List.getElem?_eq_getElem (by rw [ok.nl]; exact hk)]
 exact List.getElem_mem _
theorem pendL_len (ok : m.Ok n) {k : Nat} (hk : k < n) : (pendL m k).length = 512 := by
 unfold pendL
 split
 · exact zer_len 512
 · rw [lst_len]; have := ok.wsz hk; omega
theorem wpList_lookS {ops : Array Oper} {rest : List Oper} {o : Oper} {a : Act} {W : World} {Q : Exit -> Act -> World -> Prop} (hg : o.guard = none) (mo xo : Operand) (hop : o.op = Op.lookup 178 mo xo true)
 (hm : a.eval mo = .map (some gp)) (k : Nat) (hx : a.eval xo = .int .i64 (k : Int)) (h : PrD W g gd gp n m x D) (ok : m.Ok n) (hk : k < n)
 (hK : wpList Tryz.prog ops Q rest (a.put o.dst (.tuple #[.agg (cellsB (pendL m k)).toArray, .bool (pendB m k)])) W) : wpList Tryz.prog ops Q (o :: rest) a W := by
 have n2 := ok.n2
 refine wpList_lookup_own_ok W hg mo xo 178 hop 3 235 intK Tryz.underlying178 secElem (zeroSecRun W) (.lit (.string (zer 512))) [] (secElem_mk (zer_len 512)) gp m.wrote D hm h.map _ (kI k) hx (keyI (by omega)) ?_
 intro v ps hv
 obtain ⟨l, rfl, hl, e⟩ := secElem_inv hv
 rw [Prod.mk.injEq] at e
 have e1 := e.1
 rw [h.mo.hi k hk]
 have el : l = pendL m k := by
  unfold pendL
  by_cases h0 : (m.wait.getD k emp).size = 0
  · rw [if_pos h0]
    rw [h.mo.no hk h0] at e1
    injection e1 with e1
    injection e1 with e1
    exact e1.symm
  · rw [if_neg h0]
    rw [h.mo.at_ k hk h0] at e1
    injection e1 with e1
    injection e1 with e1
    exact e1.symm
 subst el
 exact hK
theorem wpList_loadW {P : Program} {ops : Array Oper} {rest : List Oper} {o : Oper} {a : Act} {w : World} {Q : Exit -> Act -> World -> Prop} (hg : o.guard = none) (ty : TypeId) (xo : Operand) (ho : o.op = .load ty xo) (ad : Addr) (hx : a.eval xo = .pointer (some ad)) (v : Value)
 (hl : (loadVar ty ad).run P w = .ok v w) (h : wpList P ops Q rest (a.put o.dst v) w) : wpList P ops Q (o :: rest) a w := by
 refine wpList_plain hg fun K hK => ?_
 unfold Oper.wp execOp
 simp only [ho, hx, Instr.loadAt, Instr.sureAddr, Sem.run_bind, Sem.run_pure, Result.andThen_ok, hl]
 exact hK _ _ h
theorem pread (i : Int) (h : PrD w g gd gp n m x D) (ok : m.Ok n) (hi : -9223372036854775808 <= i /\ i <= 9223372036854775807) :
 Calls Tryz.prog 162 #[.pointer (some ⟨g, 0, none⟩), .int .i64 i] w (RetXE w (lst (m.readS n i)) (m.readE n i)) := by
 have C := lH (pcheck i h ok hi)
 have n2 := ok.n2
 by_cases he : m.readE n i = 0
 · have hb : 0 <= i /\ i < n := by
    unfold RM.readE at he
    split at he
    · cases he
    · split at he
      · cases he
      · rename_i h2; omega
   obtain ⟨k, rfl⟩ : ∃ k : Nat, i = (k : Int) := ⟨i.toNat, by omega⟩
   have hk : k < n := by omega
   have er : m.readS n (k : Int) = m.at_ k := by unfold RM.readS; rw [if_pos he, Int.toNat_natCast]
   rw [er]
   rw [he] at C ⊢
   have ea : lst (m.at_ k) = if pendB m k = true then pendL m k else lst (m.last.getD k emp) := by
    unfold RM.at_ pendB pendL
    by_cases h0 : (m.wait.getD k emp).size = 0
    · have h0' : (m.wait.getD k ⟨#[]⟩).size = 0 := h0
      rw [if_pos h0', if_pos h0, h0]
      rfl
    · have h0' : ¬ (m.wait.getD k ⟨#[]⟩).size = 0 := h0
      rw [if_neg h0', if_neg h0, if_pos (by simpa using h0)]
      rfl
   rw [ea]
   have c0 := h.du
   have c1 := h.pm
   have hl := pendL_len ok hk
   have hl2 : (lst (m.last.getD k emp)).length = 512 := by rw [lst_len]; exact ok.lsz hk
   obtain ⟨S, hS⟩ : ∃ S, pendL m k = S := ⟨_, rfl⟩
   obtain ⟨T, hT⟩ : ∃ T, lst (m.last.getD k emp) = T := ⟨_, rfl⟩
   have Z0 : Hid ((w.alloc (.cells (cellsB (zer 512)).toArray 235)).heap[w.heap.size]? = some (.cells (cellsB (zer 512)).toArray 235 (0, 0))) := lH (heap_alloc_new w _)
   have Z1 : Hid (((w.alloc (.cells (cellsB (zer 512)).toArray 235)).setRow w.heap.size (cellsB S).toArray).heap[w.heap.size]? = some (.cells (cellsB S).toArray 235 (0, 0))) := lH (setRow_heap _ _ _ _ 235 _ Z0.out)
   have B1 : Hid (Below w.heap.size w ((w.alloc (.cells (cellsB (zer 512)).toArray 235)).setRow w.heap.size (cellsB S).toArray)) := lH (below_setRow ((Below.refl _ _).alloc (Nat.le_refl _) _) (Nat.le_refl _) _)
   have c0b := (h.only (Only.of_below (S := fun _ => False) B1.out (Nat.le_refl _)) (fun _ _ h => h)).du
   have LD := lH ((h.only (Only.of_below (S := fun _ => False) B1.out (Nat.le_refl _)) (fun _ _ h => h)).load ok hk)
   rw [hT] at LD
   have H := lH h
   have OK := lH ok
   have HS := lH hS
   rw [hS] at hl ⊢
   rw [hT] at hl2 ⊢
   have SS := lH (sizeSec hl)
   have ST := lH (sizeSec hl2)
   have HL := lH hl
   have HL2 := lH hl2
   obtain ⟨b, hb2⟩ : ∃ b, pendB m k = b := ⟨_, rfl⟩
   rw [hb2]
   have HB := lH hb2
   clear hb2 hl hl2 hS hT h ok er ea he hb
   cases b with
   | true =>
     rw [if_pos rfl]
     go_enter Tryz.func162, Tryz.ntmps162
     go_wp2_with (first
      | (go_at_call 160; refine C.out.mono ?_; rintro e w1 ⟨rfl, rfl⟩)
      | (at_lookup; refine wpList_lookS rfl _ _ rfl rfl k rfl H.out OK.out hk ?_; rw [HS.out, HB.out])
      | (refine wpList_allocW rfl 235 rfl _ zeroSecI ?_)
      | (refine wpList_store_row rfl 235 (.tmp 7) (.tmp 22) rfl w.heap.size (cellsB S).toArray rfl rfl 235 _ Z0.out SS.out (by rw [cellsB_size, cellsB_size, HL.out]; rfl) (cellsB_ones _) ?_))
     go_ret2
     exact ⟨_, _, _, rfl, OwnX.of_block Z1.out (Nat.le_refl _) HL.out.symm (by unfold maxLen; omega), B1.out⟩
   | false =>
     rw [if_neg (by decide)]
     go_enter Tryz.func162, Tryz.ntmps162
     go_wp2_with (first
      | (go_at_call 160; refine C.out.mono ?_; rintro e w1 ⟨rfl, rfl⟩)
      | (at_lookup; refine wpList_lookS rfl _ _ rfl rfl k rfl H.out OK.out hk ?_; rw [HS.out, HB.out])
      | (refine wpList_allocW rfl 235 rfl _ zeroSecI ?_)
      | (refine wpList_store_row rfl 235 (.tmp 7) (.tmp 22) rfl w.heap.size (cellsB S).toArray rfl rfl 235 _ Z0.out SS.out (by rw [cellsB_size, cellsB_size, HL.out]; rfl) (cellsB_ones _) ?_)
      | (refine wpList_loadW rfl 235 (.tmp 31) rfl ⟨gd, k * 512, none⟩ rfl _ LD.out ?_)
      | (refine wpList_store_row rfl 235 (.tmp 7) (.tmp 32) rfl w.heap.size (cellsB T).toArray rfl rfl 235 _ Z1.out ST.out (by rw [cellsB_size, cellsB_size, HL.out, HL2.out]) (cellsB_ones _) ?_))
     go_ret2
     exact ⟨_, _, _, rfl, OwnX.of_block (setRow_heap _ _ _ _ 235 _ Z1.out) (Nat.le_refl _) HL2.out.symm (by unfold maxLen; omega), below_setRow B1.out (Nat.le_refl _) _⟩
 · have er : m.readS n i = emp := by unfold RM.readS; rw [if_neg he]; rfl
   rw [er]
   obtain ⟨k, hk⟩ : ∃ k, m.readE n i = k := ⟨_, rfl⟩
   rw [hk] at he C ⊢
   clear er hk h ok hi n2
   go_enter Tryz.func162, Tryz.ntmps162
   go_wp2_with (go_at_call 160; refine C.out.mono ?_; rintro e w1 ⟨rfl, rfl⟩)
   go_ret2
   exact ⟨_, _, _, rfl, OwnX.nil _ _, Below.refl _ _⟩
end
theorem cloneB_any (A : Option Addr) (n c : Nat) (l : List UInt8) (w : World) (h : HasB w w.heap.size A n l) (hn : n <= 1073741824) :
 Calls Tryz.prog 161 #[.slice A n c] w (RetB w l) := by
 have hl := h.len
 have qS : ∀ (w : World) (a : Option Addr) (n c n' c' : Nat), (binOp .eql 34 (.slice a n c) (.slice none n' c')).run Tryz.prog w = .ok (.bool a.isNone) w := fun w a n c n' c' => Lib.run_eql_slice_nil w _ _ a n c n' c' Tryz.underlying34
 cases A with
 | none =>
   have h0 : ¬ 0 < n := fun hp => by obtain ⟨g, o, e, _⟩ := h.2 hp; cases e
   have hnil : l = [] := List.eq_nil_of_length_eq_zero (by omega)
   subst hnil
   clear h
   go_enter Tryz.func161, Tryz.ntmps161
   go_wp2_with fail
   go_ret
   exact ⟨_, _, _, rfl, OwnB.nil _ _, Below.refl _ _⟩
 | some ad =>
   have H := lH h
   have HL := lH hl
   clear h hl
   go_enter Tryz.func161, Tryz.ntmps161
   go_wp2_with (at_builtin; refine wp_app rfl (.tmp 5) (.tmp 6) rfl Tryz.underlying34 infoU8 w.heap.size _ [] l rfl (OwnB.empty w) w.heap.size (some ad) n c rfl (H.out.alloc (Nat.le_refl _) _) (by rw [<- HL.out]; simp; omega) (by simp) ?_; intro A2 n2 c2 w2 hown2 hg2 hb2)
   go_ret
   exact ⟨_, _, _, rfl, hown2, ((Below.refl _ w).alloc (Nat.le_refl _) _).trans hb2⟩
section
variable {P : Program} {ops : Array Oper} {o : Oper} {a : Act} {S : World -> Prop}
end
def At512 (W : World) (gb ob : Nat) (l : List UInt8) : Prop := ∀ i b, l[i]? = some b -> W.cell? ⟨gb, ob + i, none⟩ = some (.int .u8 (b.toNat : Int))
theorem load_secB {W : World} {gb ob : Nat} {l : List UInt8} (h : At512 W gb ob l) (hl : l.length = 512) : (loadVar 235 ⟨gb, ob, none⟩).run Tryz.prog W = .ok (.agg (cellsB l).toArray) W := by
 have hc : (loadCells ⟨gb, ob, none⟩ (cellsB l).length).run Tryz.prog W = .ok (cellsB l).toArray W :=
  run_loadCells_list (P := Tryz.prog) W ⟨gb, ob, none⟩ (cellsB l) (fun j v hv => by
   obtain ⟨b, hb, rfl⟩ := cellsB_at hv
   rw [Addr.add_lit]
   exact h j b hb)
 rw [cellsB_length, hl] at hc
 have hi := infoSec
 cases hq : Tryz.prog.info? 235 with
 | none => simp [hq] at hi
 | some i =>
   have hs : i.size = 512 := by simpa [hq] using hi
   have hagg : (isAgg 235).run Tryz.prog W = .ok true W := by
    unfold isAgg
    rw [Sem.run_bind, run_underlying Tryz.underlying235 W]
    rfl
   simp [loadVar, Sem.run_bind, hagg, sizeOf, typeInfo, hq, hs, hc]
theorem At512.keepB {W W' : World} {gb ob : Nat} {l : List UInt8} (h : At512 W gb ob l) (hg : gb < W.heap.size) (hb : Below W.heap.size W W') : At512 W' gb ob l :=
 fun i b hi => (hb.cell (p := ⟨gb, ob + i, none⟩) hg).trans (h i b hi)
theorem HasN.only {w w' : World} {S T : Nat -> Prop} {A : Option Addr} {n : Nat} {l : List UInt8} (h : HasN w S A n l) (ho : Only T w w') (hT : ∀ k, ¬ S k -> ¬ T k) : HasN w' S A n l :=
 ⟨h.1, fun hn => by
  obtain ⟨g, o, e, hg, hS, hc⟩ := h.2 hn
  refine ⟨g, o, e, Nat.lt_of_lt_of_le hg ho.size, hS, fun i b hi => ?_⟩
  have := hc i b hi
  unfold World.cell? at this ⊢
  rw [ho.block g hg (hT g hS)]
  exact this⟩
theorem HasN.hasB {w : World} {S : Nat -> Prop} {A : Option Addr} {n : Nat} {l : List UInt8} (h : HasN w S A n l) : HasB w w.heap.size A n l :=
 ⟨h.1, fun hn => by obtain ⟨g, o, e, hg, _, hc⟩ := h.2 hn; exact ⟨g, o, e, hg, hc⟩⟩
theorem HasN.at_ {w : World} {S : Nat -> Prop} {A : Option Addr} {n : Nat} {l : List UInt8} (h : HasN w S A n l) (hn : 0 < n) : ∃ g o, A = some ⟨g, o, none⟩ /\ g < w.heap.size /\ ¬ S g /\ At512 w g o l := h.2 hn
theorem Only.grown {w w' : World} {b : Nat} (h : w.grownBy w' (some b)) : Only (fun j => j = b) w w' :=
 ⟨h.os, h.tape, h.output, h.size, fun k hk hS => h.block k hk (fun e => by injection e with e; exact hS e)⟩
section
variable {S : Nat -> Prop} {w w' : World} {g gd gp n : Nat} {m m' : RM} {x x' : PX} {D : DU}
theorem PrD.keepB (h : PrD w g gd gp n m x D) (hb : Below w.heap.size w w') : PrD w' g gd gp n m x D := h.only (Only.of_below (S := fun _ => False) hb (Nat.le_refl _)) (fun _ _ h => h)
theorem stillG {P : Program} {o : Oper} {a : Act} {w : World} {K : Act -> Prop} {arr : TypeId} {x : Operand} (ho : o.op = .sliceToArrayPointer arr x) {v : Value} (hr : (Instr.arrayAt arr (a.eval x)).run P w = .ok v w) (h : K (a.put o.dst v)) : o.still P a w K := by
 unfold Oper.still execOp
 simp only [ho, Sem.run_bind, Sem.run_pure, Result.andThen_ok, hr]
 exact ⟨rfl, h⟩
theorem stillL {P : Program} {o : Oper} {a : Act} {w : World} {K : Act -> Prop} {ty : TypeId} {x : Operand} (ho : o.op = .load ty x) {y : Value} (hy : a.eval x = y) {v : Value} (hr : (Instr.loadAt ty y).run P w = .ok v w) (h : K (a.put o.dst v)) : o.still P a w K := by
 unfold Oper.still execOp
 simp only [ho, hy, Sem.run_bind, Sem.run_pure, Result.andThen_ok, hr]
 exact ⟨rfl, h⟩
theorem PrD.stored (h : PrD w g gd gp n m x D) (ok : m.Ok n) {k : Nat} (hk : k < n) {s : ByteArray} (hs : s.size = 512) (h1 : w'.ownsMap Tryz.prog 3 secElem gp (m.wrote + 1) (D.put (kI k) (.lit (.string (lst s))))) (h2 : Only (fun j => j = gp) w w') :
 PrD (w'.setCell ⟨g, 8, none⟩ (.int .i64 ((m.wrote : Int) + 1))) g gd gp n { m with wait := m.wait.set k s, wrote := m.wrote + 1 } x (D.put (kI k) (.lit (.string (lst s)))) := by
 have hb : w'.heap[g]? = some (.cells (pdC gd gp n m x) 182 (0, 0)) := (h2.block g (Array.getElem?_eq_some_iff.1 h.blk).1 h.d2).trans h.blk
 have o2 : Only (fun j => j = g) w' (w'.setCell ⟨g, 8, none⟩ (.int .i64 ((m.wrote : Int) + 1))) := (Only.refl _ _).cell1 _ _
 refine ⟨?_, ?_, ?_, h.mo.put ok.nw hk (by omega), ?_, h.ar, h.wy, h.d1, h.d2, h.d3, h.dt⟩
 · rw [heap_setCell_same w' g 8 _ _ _ hb]
   rfl
 · exact (o2.block gd (Nat.lt_of_lt_of_le h.row.lt h2.size) (fun e => h.d1 e.symm)).trans ((h2.block gd h.row.lt h.d3).trans h.row)
 · exact ownsMap_only h1 o2 (fun e => h.d2 e.symm)
 · exact (h.tr.only h2 (fun k hk e => (h.dt k hk).2.2 e)).only o2 (fun k hk e => (h.dt k hk).1 e)
theorem PrD.onway (h : PrD w g gd gp n m x D) (ok : m.Ok n) {k : Nat} (hk : k < n) {A : Option Addr} {tn tc : Nat} {l : List UInt8} (hb : Below w.heap.size w w') (own : OwnB w' w.heap.size (.slice A tn tc) l) {s : ByteArray} (hs : lst s = l) :
 PrD (w'.setRow g ((pdC gd gp n m x).toList.take 6 ++ [Value.int .i64 (k : Int), Value.slice A tn tc] ++ (pdC gd gp n m x).toList.drop 8).toArray) g gd gp n { m with way := (k : Int), coming := s } { x with sc := (k : Int), TA := A, tn := tn, tc := tc, tl := l } D := by
 have h' := h.keepB hb
 have hlt := h.lt
 have o2 : Only (fun j => j = g) w' (w'.setRow g ((pdC gd gp n m x).toList.take 6 ++ [Value.int .i64 (k : Int), Value.slice A tn tc] ++ (pdC gd gp n m x).toList.drop 8).toArray) := (Only.refl _ _).setRow (S := fun j => j = g) rfl _
 have hg : g < w.heap.size := hlt g (.inl rfl)
 have hgd : gd < w.heap.size := hlt gd (.inr (.inl rfl))
 have hgp : gp < w.heap.size := hlt gp (.inr (.inr (.inl rfl)))
 refine ⟨?_, ?_, ?_, h.mo, ?_, h.ar, ⟨fun hn => ?_, fun _ => ⟨rfl, hs.symm⟩⟩, h.d1, h.d2, h.d3, fun j hj => ?_⟩
 · rw [setRow_heap w' g _ _ _ _ h'.blk]
   rfl
 · exact (o2.block gd h'.row.lt (fun e => h.d1 e.symm)).trans h'.row
 · exact ownsMap_only h'.map o2 (fun e => h.d2 e.symm)
 · exact (own.less (Nat.zero_le _)).only o2 (fun j hj e => by have := (own.lt j hj).1; omega)
 · have : (k : Int) < 0 := hn
   omega
 · have := (own.lt j hj).1
   omega
theorem wpList_build2 {P : Program} {ops : Array Oper} {rest : List Oper} {o : Oper} {a : Act} {w : World} {Q : Exit -> Act -> World -> Prop} (hg : o.guard = none) (t : TypeId) (i j : Nat) (x y : Operand) (ho : o.op = .build t #[(i, x), (j, y)]) (u v : Value) (hx : a.eval x = u) (hy : a.eval y = v)
 (cells : Array Value) (hf : P.built t [(i, u), (j, v)] = some cells) (h : wpList P ops Q rest (a.put o.dst (.agg cells)) w) : wpList P ops Q (o :: rest) a w := by
 refine wpList_plain hg fun K hK => ?_
 unfold Oper.wp execOp
 simp only [ho, Sem.run_bind, List.map_toArray, List.map_cons, List.map_nil, hx, hy, run_build w t _ _ hf, Result.andThen_ok]
 exact hK _ _ h
theorem wpList_storePart {P : Program} {ops : Array Oper} {rest : List Oper} {o : Oper} {a : Act} {w : World} {Q : Exit -> Act -> World -> Prop} (hgd : o.guard = none) (ty : TypeId) (x y : Operand) (ho : o.op = .store ty x y)
 (g off : Nat) (cells : Array Value) (hx : a.eval x = .pointer (some ⟨g, off, none⟩)) (hy : a.eval y = .agg cells)
 (t : TypeId) (cur : Array Value) (hg : w.heap[g]? = some (.cells cur t (0, 0))) (hi : (P.info? ty).map (·.size) = some cells.size) (hfit : off + cells.size <= cur.size) (h1 : ∀ v ∈ cells.toList, v.oneCell' = true)
 (h : wpList P ops Q rest (a.put o.dst undef) (w.setRow g (cur.toList.take off ++ cells.toList ++ cur.toList.drop (off + cells.size)).toArray)) : wpList P ops Q (o :: rest) a w :=
 wpList_plain hgd fun _ hK => wp_store_part ty x y ho g off cells hx hy t cur hg hi hfit h1 (hK _ _ h)
theorem tear_ones (i : Int) (A : Option Addr) (n c : Nat) : ∀ v ∈ (#[Value.int .i64 i, .slice A n c] : Array Value).toList, v.oneCell' = true := by
 intro v hv
 simp only [List.mem_cons, List.not_mem_nil, or_false] at hv
 rcases hv with rfl | rfl <;> rfl
theorem infoTear : (Tryz.prog.info? 180).map (·.size) = some 2 := by kernel_rfl
end
section
variable {S : Nat -> Prop} {w w' : World} {g gd gp n : Nat} {m m' : RM} {x x' : PX} {D : DU}
def PD (w : World) (g : Nat) (S : Nat -> Prop) (n : Nat) (m : RM) : Prop := ∃ gd gp x D, PrD w g gd gp n m x D /\ S = PrB g gd gp x
theorem pwrite (i : Int) (A : Option Addr) (q c : Nat) (l : List UInt8) (h : PrD w g gd gp n m x D) (ok : m.Ok n) (hwr : m.wrote < 1073741824) (hi : -9223372036854775808 <= i /\ i <= 9223372036854775807)
 (hB : HasN w (PrB g gd gp x) A q l) (hqc : q <= c) (hq : q <= 1073741824) :
 Calls Tryz.prog 136 #[.pointer (some ⟨g, 0, none⟩), .int .i64 i, .slice A q c] w (Left2 PD w g (PrB g gd gp x) n (.int .i64 (m.writeE n i (strB l))) (m.writeM n i (strB l))) := by
 have C := lH (pcheck i h ok hi)
 have CF := lH (pfails h ok)
 have OK := lH ok
 have OG := lH ok.go
 have H := lH h
 have hl := hB.1
 have n2 := ok.n2
 have same : Left2 PD w g (PrB g gd gp x) n (.int .i64 (m.chk n i (strB l))) m (.returned (.int .i64 (m.chk n i (strB l)))) w := ⟨rfl, ⟨_, ⟨gd, gp, x, D, h, rfl⟩, fun _ hk => .inl hk⟩, Only.refl _ _⟩
 have SM := lH same
 clear same
 by_cases hc : m.chk n i (strB l) = 0
 · have hf : 0 <= i /\ i < n /\ l.length = 512 := by
    unfold RM.chk at hc
    rw [strB_size] at hc
    split at hc
    · cases hc
    · split at hc
      · cases hc
      · split at hc
        · cases hc
        · omega
   have hr0 : m.readE n i = 0 := by
    unfold RM.chk at hc
    unfold RM.readE
    split at hc
    · cases hc
    · rename_i h1
      rw [if_neg h1]
      split at hc
      · cases hc
      · rename_i h2
        rw [if_neg h2]
   rw [hr0] at C
   obtain ⟨k, rfl⟩ : ∃ k : Nat, i = (k : Int) := ⟨i.toNat, by omega⟩
   have hk : k < n := by omega
   have h512 : l.length = 512 := hf.2.2
   obtain rfl : q = 512 := by omega
   obtain ⟨gb, ob, rfl, hgb, hgs, hat⟩ := hB.at_ (by omega)
   have e1 : m.writeE n (k : Int) (strB l) = if m.goB = true then 0 else 8 := by unfold RM.writeE; rw [if_pos hc]
   have e2 : m.writeM n (k : Int) (strB l) = if m.goB = true then { m.goM with wait := m.goM.wait.set k (strB l), wrote := m.goM.wrote + 1 } else { m.goM with way := (k : Int), coming := (strB l).extract 0 m.goM.part.toNat } := by unfold RM.writeM; rw [if_pos hc, Int.toNat_natCast]
   rw [e1, e2]
   have hgw : m.goM.wrote = m.wrote := by unfold RM.goM; split <;> (try split) <;> rfl
   have HGW := lH hgw
   have HLn := lH h512
   have HB := lH hB
   have HAt := lH hat
   clear e1 e2 hr0 hc hf hgw SM h ok hl hB hat hq h512
   cases hgo : m.goB with
   | false =>
     rw [if_neg (by decide), if_neg (by decide)]
     rw [hgo] at CF
     clear hgo
     obtain ⟨pt, hpt⟩ : ∃ pt : Nat, m.goM.part = (pt : Int) := ⟨m.goM.part.toNat, by have := OG.out.pt; omega⟩
     have hp2 : pt <= 512 := by have := OG.out.pt; omega
     have HPT := lH hpt
     clear hpt
     have ex : lst ((strB l).extract 0 m.goM.part.toNat) = l.take pt := by
      rw [HPT.out, Int.toNat_natCast]
      show ((strB l).extract 0 pt).data.toList = _
      rw [ByteArray.data_extract, Array.toList_extract]
      simp [strB]
     have EX := lH ex
     clear ex
     go_enter Tryz.func136, Tryz.ntmps136
     go_wp2_with (first
      | (go_at_call 161; refine (cloneB_any _ _ _ (l.take pt) _ (by have := B1.out.window (k := 0) (s := pt) (by omega) (A' := some ⟨gb, ob, none⟩) (m := pt) rfl (fun _ => rfl); rwa [List.drop_zero] at this) (by omega)).mono ?_; rintro e w2 ⟨A2, n2, c2, rfl, own2, b2⟩
         have O2 := lH own2
         have BB2 := lH b2
         have k5 := (D1.out.keepB b2).blk
         have K5 := lH k5
         clear own2 b2 k5)
      | (go_at_call 160; refine C.out.mono ?_; rintro e w1' ⟨rfl, rfl⟩)
      | (go_at_call 159; refine CF.out.mono ?_; rintro e w1 ⟨rfl, ⟨x1, d1, q1, q2, q3⟩, o1⟩
         have k4 : w1.cell? ⟨g, 5, none⟩ = some (.int .i64 (pt : Int)) := by rw [<- HPT.out]; exact d1.pt
         have D1 := lH d1
         have O1 := lH o1
         have Q1 := lH (And.intro q1 (And.intro q2 q3))
         have B1 := lH (HB.out.only o1 (fun k hk hkg => hk (.inl hkg))).hasB
         clear d1 o1 q1 q2 q3)
      | (refine wpList_storePart rfl 180 (.tmp 30) (.tmp 28) rfl g 6 #[.int .i64 (k : Int), .slice A2 n2 c2] rfl rfl 182 (pdC gd gp n m.goM x1) K5.out infoTear (show 8 <= 10 by omega) (tear_ones _ _ _ _) ?_))
     go_ret
     refine ⟨rfl, ⟨_, ⟨gd, gp, _, D, (D1.out.onway OG.out hk BB2.out O2.out EX.out), rfl⟩, ?_⟩, ?_⟩
     · rintro j (rfl | rfl | rfl | hj)
       · exact .inl (.inl rfl)
       · exact .inl (.inr (.inl rfl))
       · exact .inl (.inr (.inr (.inl rfl)))
       · exact .inr (Nat.le_trans O1.out.size (O2.out.lt j hj).1)
     · exact ((O1.out.mono (T := PrB g gd gp x) (fun j _ e => .inl e)).trans (Only.of_below BB2.out (Nat.le_refl _))).setRow (.inl rfl) _
   | true =>
     rw [if_pos rfl, if_pos rfl]
     rw [hgo] at CF
     clear hgo
     have EX : Hid (lst (strB l) = l) := lH rfl
     go_enter Tryz.func136, Tryz.ntmps136
     go_upto_region 9 with (first
      | (go_at_call 160; refine C.out.mono ?_; rintro e w1' ⟨rfl, rfl⟩)
      | (go_at_call 159; refine CF.out.mono ?_; rintro e w1 ⟨rfl, ⟨x1, d1, q1, q2, q3⟩, o1⟩
         have D1 := lH d1
         have O1 := lH o1
         have Q1 := lH (And.intro q1 (And.intro q2 q3))
         have hgb1 : gb < w1.heap.size := Nat.lt_of_lt_of_le hgb o1.size
         obtain ⟨gb', ob', ea, _, _, hat1⟩ := (HB.out.only o1 (fun k hk hkg => hk (.inl hkg))).at_ (by omega)
         obtain ⟨rfl, rfl⟩ : gb = gb' /\ ob = ob' := by simp only [Option.some.injEq, Addr.mk.injEq, and_true] at ea; exact ea
         have HB1 := lH hat1
         clear d1 o1 q1 q2 q3 ea hat1))
     have hLd : (Instr.loadAt 235 (.pointer (some ⟨gb, ob, none⟩))).run Tryz.prog w1.drew = .ok (.agg (cellsB l).toArray) w1.drew := by
      have HB2 : At512 w1.drew gb ob l := HB1.out
      simp only [Instr.loadAt, Instr.sureAddr, Sem.run_bind, Sem.run_pure, Result.andThen_ok, load_secB HB2 HLn.out]
     have hAr : ∀ W, (Instr.arrayAt 235 (.slice (some ⟨gb, ob, none⟩) 512 c)).run Tryz.prog W = .ok (.pointer (some ⟨gb, ob, none⟩)) W := by
      intro W
      unfold Instr.arrayAt
      simp [run_underlying Tryz.underlying235]
     have k1 := D1.out.pm
     have LDh := lH hLd
     have ARh := lH hAr
     clear hLd hAr
     go_still_tail 8, (by kernel_rfl)
     change wpStill _ _ w1.drew _ _ _
     refine wpStill_step (fun K hK => ?_)
     refine stillG rfl (ARh.out _) ?_
     refine hK _ ?_
     clear hK K
     refine wpStill_step (fun K hK => ?_)
     refine stillL rfl rfl LDh.out ?_
     refine hK _ ?_
     clear hK K
     refine wpStill_nil ?_
     change wpList _ _ _ _ _ w1.drew
     simp only [Act.put, List.setIfInBounds_toArray, List.set_cons_zero, List.set_cons_succ]
     obtain ⟨w4, h4⟩ : ∃ w4, w1.drew = w4 := ⟨_, rfl⟩
     rw [h4]
     have D4 : Hid (PrD w4 g gd gp n m.goM x1 D) := lH (h4 ▸ D1.out.drew)
     have O4 : Hid (Only (fun j => j = g) w w4) := lH (h4 ▸ O1.out.drew)
     clear h4 LDh ARh k1
     have hwr4 : m.goM.wrote < maxLen := by rw [HGW.out]; unfold maxLen; omega
     go_wp2_with (at_mapUpdate; refine wpList_mapUpdate_own w4 rfl (.tmp 34) (.tmp 35) (.tmp 38) 178 rfl 3 235 intK Tryz.underlying178 secElem gp m.goM.wrote D rfl D4.out.map hwr4 _ _ (kI k) rfl rfl (keyI (by omega)) (.lit (.string l)) [] (secElem_mk HLn.out) ?_; intro w5 own5 g5
                  have o5 := Only.grown g5
                  have b5 : w5.heap[g]? = some (.cells (pdC gd gp n m.goM x1) 182 (0, 0)) := (o5.block g (Array.getElem?_eq_some_iff.1 D4.out.blk).1 D4.out.d2).trans D4.out.blk
                  have k8 : w5.cell? ⟨g, 8, none⟩ = some (.int .i64 (m.wrote : Int)) := by rw [<- HGW.out]; exact cell_of_row w5 g 8 _ _ (0, 0) b5
                  have f8 : w5.frozen? ⟨g, 8, none⟩ = false := frozen_of_row w5 g 8 _ _ b5
                  have OW5 := lH own5
                  have O5 := lH o5
                  clear own5 g5 o5 b5)
     go_ret
     refine ⟨rfl, ⟨_, ⟨gd, gp, x1, D.put (kI k) (.lit (.string l)), ?_, rfl⟩, fun j hj => .inl ?_⟩, ?_⟩
     · have := D4.out.stored (w' := w5) OG.out hk (s := strB l) HLn.out OW5.out O5.out
       rw [HGW.out] at this
       rw [HGW.out]
       exact this
     · obtain ⟨q1, q2, q3⟩ := Q1.out
       rcases hj with hj | hj | hj | hj
       · exact .inl hj
       · exact .inr (.inl hj)
       · exact .inr (.inr (.inl hj))
       · rw [q1, q2, q3] at hj
         exact .inr (.inr (.inr hj))
     · exact ((O4.out.mono (T := PrB g gd gp x) (fun j _ e => .inl e)).trans (O5.out.mono (T := PrB g gd gp x) (fun j _ e => .inr (.inr (.inl e))))).setCell (.inl rfl) _
 · -- it's refused ahead of the disk's own failure
   have e1 : m.writeE n i (strB l) = m.chk n i (strB l) := by unfold RM.writeE; rw [if_neg hc]
   have e2 : m.writeM n i (strB l) = m := by unfold RM.writeM; rw [if_neg hc]
   rw [e1, e2]
   by_cases hr : m.readE n i = 0
   · have h9 : m.chk n i (strB l) = 9 /\ l.length ≠ 512 := by
      unfold RM.chk at hc ⊢
      unfold RM.readE at hr
      rw [strB_size] at hc ⊢
      split at hr
      · cases hr
      · rename_i h1
        rw [if_neg h1] at hc ⊢
        split at hr
        · cases hr
        · rename_i h2
          rw [if_neg h2] at hc ⊢
          split at hc
          · rename_i h3
            exact ⟨if_pos h3, h3⟩
          · exact absurd rfl hc
     obtain ⟨h9, hne⟩ := h9
     rw [h9] at SM ⊢
     rw [hr] at C
     have hq5 : ¬ (q : Int) = 512 := by omega
     clear e1 e2 hc h9 hr h ok hB CF hi hl hne
     go_enter Tryz.func136, Tryz.ntmps136
     go_wp2_with (go_at_call 160; refine C.out.mono ?_; rintro e w1' ⟨rfl, rfl⟩)
     go_ret
     exact SM.out
   · have h9 : m.chk n i (strB l) = m.readE n i := by
      unfold RM.chk RM.readE
      unfold RM.readE at hr
      split at hr
      · rename_i h1
        rw [if_pos h1, if_pos h1]
      · rename_i h1
        rw [if_neg h1, if_neg h1]
        split at hr
        · rename_i h2
          rw [if_pos h2, if_pos h2]
        · exact absurd rfl hr
     rw [h9] at SM ⊢
     obtain ⟨r, er⟩ : ∃ r, m.readE n i = r := ⟨_, rfl⟩
     rw [er] at SM C hr ⊢
     clear e1 e2 hc h9 er h ok hB CF hi hl
     go_enter Tryz.func136, Tryz.ntmps136
     go_wp2_with (go_at_call 160; refine C.out.mono ?_; rintro e w1' ⟨rfl, rfl⟩)
     go_ret
     exact SM.out
end
end Go.Proofs.YthoebjekkfhhgaaGreat
namespace Go.Proofs.YthoebjekkfhhgaaGreat
open Go.RowKit Go.Maps Go.ChangeMaps Go.MapKept
theorem RM.flK_form (m : RM) (k : Nat) : ∃ L W, m.flK k = { m with last := L, wait := W } := by
 induction k with
 | zero => exact ⟨m.last, m.wait, rfl⟩
 | succ k ih =>
   obtain ⟨L, W, e⟩ := ih
   rw [RM.flK_succ, e]
   unfold RM.flI
   split
   · exact ⟨L, W, rfl⟩
   · exact ⟨_, _, rfl⟩
theorem getD_ext {l l' : List ByteArray} {n : Nat} (h1 : l.length = n) (h2 : l'.length = n) (h : ∀ i, i < n -> l.getD i emp = l'.getD i emp) : l = l' := by
 refine List.ext_getElem? fun i => ?_
 by_cases hi : i < n
 · have := h i hi
   rw [List.getD_eq_getElem?_getD, List.getD_eq_getElem?_getD, List.getElem?_eq_getElem (by omega), List.getElem?_eq_getElem (by omega)] at this
   rw [List.getElem?_eq_getElem (by omega), List.getElem?_eq_getElem (by omega)]
   exact congrArg some this
 · rw [List.getElem?_eq_none (by omega), List.getElem?_eq_none (by omega)]
def mix (m : RM) (n : Nat) (f : Nat -> Bool) : List ByteArray := (List.range n).map fun i => if f i = true then m.wait.getD i emp else m.last.getD i emp
theorem mix_len (m : RM) (n : Nat) (f : Nat -> Bool) : (mix m n f).length = n := by simp [mix]
theorem mix_at (m : RM) (n : Nat) (f : Nat -> Bool) {i : Nat} (hi : i < n) : (mix m n f).getD i emp = if f i = true then m.wait.getD i emp else m.last.getD i emp := by
 rw [List.getD_eq_getElem?_getD]
 simp [mix, hi]
theorem mix_none (m : RM) (n : Nat) (ok : m.Ok n) (f : Nat -> Bool) (h : ∀ i, i < n -> f i = false) : mix m n f = m.last :=
 getD_ext (mix_len m n f) ok.nl fun i hi => by rw [mix_at m n f hi, h i hi]; rfl
theorem mix_set (m : RM) (n : Nat) (f f' : Nat -> Bool) (k : Nat) (hk : k < n) (h1 : f' k = true) (h2 : ∀ i, i < n -> i ≠ k -> f' i = f i) : mix m n f' = (mix m n f).set k (m.wait.getD k emp) :=
 getD_ext (mix_len m n f') (by rw [List.length_set]; exact mix_len m n f) fun i hi => by
  rw [getD_set _ _ _ _ (by rw [mix_len]; exact hk), mix_at m n f' hi]
  by_cases e : k = i
  · subst e
    rw [h1, if_pos rfl, if_pos rfl]
  · rw [if_neg e, mix_at m n f hi, h2 i hi (fun e' => e e'.symm)]
theorem mix_same (m : RM) (n : Nat) (f f' : Nat -> Bool) (h : ∀ i, i < n -> f' i = f i) : mix m n f' = mix m n f :=
 getD_ext (mix_len m n f') (mix_len m n f) fun i hi => by rw [mix_at m n f' hi, mix_at m n f hi, h i hi]
theorem mix_ok (m : RM) (n : Nat) (ok : m.Ok n) (f : Nat -> Bool) (h : ∀ i, i < n -> f i = true -> pendB m i = true) : ∀ s ∈ mix m n f, s.size = 512 := by
 intro s hs
 unfold mix at hs
 rw [List.mem_map] at hs
 obtain ⟨i, hi, rfl⟩ := hs
 have hi := List.mem_range.1 hi
 split
 · rename_i hf
   have := h i hi hf
   unfold pendB at this
   rw [decide_eq_true_iff] at this
   have := ok.wsz hi
   omega
 · exact ok.lsz hi
theorem RM.Ok.mixed {m : RM} {n : Nat} (ok : m.Ok n) {f : Nat -> Bool} (h : ∀ i, i < n -> f i = true -> pendB m i = true) : ({ m with last := mix m n f } : RM).Ok n :=
 ⟨mix_len m n f, ok.nw, ok.n1, ok.n2, mix_ok m n ok f h, ok.ws, ok.pt, ok.ar, ok.wy, ok.cm, ok.wr, ok.pw⟩
theorem flush_end (m : RM) (n : Nat) (ok : m.Ok n) : ∃ W, m.flK n = { m with last := mix m n (pendB m), wait := W } /\ ∀ i, i < n -> (W.getD i emp).size = 0 := by
 obtain ⟨L, W, e⟩ := m.flK_form n
 have okf := ok.flK n
 rw [e] at okf
 refine ⟨W, ?_, fun i hi => ?_⟩
 · rw [e]
   have : L = mix m n (pendB m) := getD_ext okf.nl (mix_len _ _ _) fun i hi => by
    have h1 := (m.flK_at n ok n i (Nat.le_refl _)).1
    rw [e] at h1
    rw [mix_at _ _ _ hi]
    refine h1.trans ?_
    by_cases h0 : (m.wait.getD i emp).size = 0
    · have hp : pendB m i = false := decide_eq_false (fun hh => hh h0)
      rw [if_neg (fun hh => hh.2 h0), hp]; rfl
    · have hp : pendB m i = true := decide_eq_true h0
      rw [if_pos ⟨hi, h0⟩, hp]; rfl
   rw [this]
 · have h2 := (m.flK_at n ok n i (Nat.le_refl _)).2
   rw [e] at h2
   have h3 : W.getD i emp = if i < n /\ (m.wt i).size ≠ 0 then emp else m.wt i := h2
   rw [h3]
   split
   · rfl
   · rename_i hh
     by_cases h0 : (m.wt i).size = 0
     · exact h0
     · exact absurd ⟨hi, h0⟩ hh
theorem stillL2 {P : Program} {o : Oper} {a : Act} {w : World} {K : Act -> Prop} {ty : TypeId} {x : Operand} (ho : o.op = .load ty x) {ad : Addr} (hy : a.eval x = .pointer (some ad)) {v : Value} (hr : (loadVar ty ad).run P w = .ok v w) (h : K (a.put o.dst v)) : o.still P a w K :=
 stillL ho hy (by simp only [Instr.loadAt, Instr.sureAddr, Sem.run_bind, Sem.run_pure, Result.andThen_ok, hr]) h
section
variable {S : Nat -> Prop} {w w' : World} {g gd gp n : Nat} {m m' : RM} {x x' : PX} {D : DU}
def secRow (l : List ByteArray) (E : List Value) (k : Nat) (s : List UInt8) : Array Value :=
 ((cellsB (flat l) ++ E).toArray.toList.take (k * 512) ++ (cellsB s).toArray.toList ++ (cellsB (flat l) ++ E).toArray.toList.drop (k * 512 + (cellsB s).toArray.size)).toArray
theorem secRow_eq {l : List ByteArray} (E : List Value) (hl : ∀ s ∈ l, s.size = 512) {k : Nat} (hk : k < l.length) {s : ByteArray} (hs : s.size = 512) : secRow l E k (lst s) = (cellsB (flat (l.set k s)) ++ E).toArray := by
 unfold secRow
 have hf : (cellsB (flat l)).length = 512 * l.length := by rw [cellsB_length, flat_len hl]
 rw [flat_set hl hk s, cellsB_size, lst_len, hs, Nat.mul_comm k 512]
 rw [List.take_append_of_le_length (by rw [hf]; omega), List.drop_append_of_le_length (by rw [hf]; omega)]
 simp [cellsB, List.map_take, List.map_drop]
theorem PrD.setSec (h : PrD w g gd gp n m x D) (ok : m.Ok n) {k : Nat} (hk : k < n) {s : ByteArray} (hs : s.size = 512) : PrD (w.setRow gd (secRow m.last x.ex k (lst s))) g gd gp n { m with last := m.last.set k s } x D := by
 have o2 : Only (fun j => j = gd) w (w.setRow gd (secRow m.last x.ex k (lst s))) := (Only.refl _ _).setRow (S := fun j => j = gd) rfl _
 refine ⟨(o2.block g (Array.getElem?_eq_some_iff.1 h.blk).1 h.d1).trans h.blk, ?_, ownsMap_only h.map o2 (fun e => h.d3 e.symm), h.mo, h.tr.only o2 (fun j hj e => (h.dt j hj).2.1 e), h.ar, h.wy, h.d1, h.d2, h.d3, h.dt⟩
 rw [secRow_eq x.ex ok.ls (by rw [ok.nl]; exact hk) hs]
 exact setRow_heap w gd _ _ 235 _ h.row
theorem wpList_clearS {ops : Array Oper} {rest : List Oper} {o : Oper} {a : Act} {W : World} {Q : Exit -> Act -> World -> Prop} (hg : o.guard = none) (mo : Operand) (ho : o.op = .call { callee := .builtin .clear, args := #[mo], argTypes := #[178] })
 (hm : a.eval mo = .map (some gp)) (c : Nat) (h : W.ownsMap Tryz.prog 3 secElem gp c D)
 (hK : ∀ w', w'.ownsMap Tryz.prog 3 secElem gp 0 (.map [] : DU) -> Only (fun j => j = gp) W w' -> wpList Tryz.prog ops Q rest (a.put o.dst (.tuple #[])) w') : wpList Tryz.prog ops Q (o :: rest) a W := by
 refine wpList_plain hg fun K hKK => ?_
 obtain ⟨es, clock, hb, F, hs, hD⟩ := h
 have hrun : (Builtin.clear_ #[178] o.type #[.map (some gp)]).run Tryz.prog W = .ok (.tuple #[]) (setBlock W gp (.map #[] clock)) := by
  simp [Builtin.clear_, run_underlying Tryz.underlying178, MapKept.run_getObj_map hb, MapKept.run_setObj_map _ hb, Result.andThen]
  rfl
 unfold Oper.wp execOp
 simp only [ho, resolve, invoke, builtin, Sem.run_bind, Sem.run_pure, Result.andThen_ok, List.map_toArray, List.map_cons, List.map_nil, hm, hrun]
 refine hKK _ _ (hK _ ⟨#[], clock, heap_setBlock_same hb _, ⟨by simp, MapKept.stamped_empty clock, by simp⟩, Nat.le_refl _, rfl⟩ ⟨rfl, rfl, rfl, by simp [setBlock], fun k _ hk => heap_setBlock_other hb _ hk⟩)
theorem PrD.cleared (h : PrD w g gd gp n m x D) (h1 : w'.ownsMap Tryz.prog 3 secElem gp 0 (.map [] : DU)) (ho : Only (fun j => j = gp) w w') {W : List ByteArray} (hW : ∀ i, i < n -> (W.getD i emp).size = 0) : PrD w' g gd gp n { m with wait := W } x (.map []) :=
 ⟨(ho.block g (Array.getElem?_eq_some_iff.1 h.blk).1 h.d2).trans h.blk, (ho.block gd h.row.lt h.d3).trans h.row, h1.mono (Nat.zero_le _), MapOf.none n W hW, h.tr.only ho (fun j hj e => (h.dt j hj).2.2 e), h.ar, h.wy, h.d1, h.d2, h.d3, h.dt⟩
end
end Go.Proofs.YthoebjekkfhhgaaGreat
namespace Go.Proofs.YthoebjekkfhhgaaGreat
open Go.RowKit Go.Maps
section
variable {S : Nat -> Prop} {w w' : World} {g gd gp n : Nat} {m m' : RM} {x x' : PX} {D : DU}
structure FlS (w wr : World) (g gd gp n r : Nat) (m : RM) (x : PX) (D : DU) (left : Lit -> Bool) (cnt : Nat) : Prop where
 d : PrD wr g gd gp n { m with last := mix m n (fun i => pendB m i && !left (kI i)) } x D
 r : wr.ranges Tryz.prog 3 secElem gp r m.wrote D left cnt
 l : ∀ kl, left kl = true -> Maps.has D kl = true
 o : Only (PrB g gd gp x) w wr
theorem Only.blocks {S : Nat -> Prop} {w w' : World} {r : Option Nat} (h : w.grownBy w' r) (hr : ∀ b, r = some b -> S b) : Only S w w' :=
 ⟨h.os, h.tape, h.output, h.size, fun k hk hS => h.block k hk (fun e => hS (hr k e.symm))⟩
theorem Only.new {S : Nat -> Prop} {w w1 w' : World} {r : Nat} (h : Only S w w1) (h2 : Only (fun j => j = r) w1 w') (hr : w.heap.size <= r) : Only S w w' :=
 ⟨h2.os.trans h.os, h2.tape.trans h.tape, h2.output.trans h.output, Nat.le_trans h.size h2.size, fun k hk hS => (h2.block k (Nat.lt_of_lt_of_le hk h.size) (by omega)).trans (h.block k hk hS)⟩
theorem ranges_only {wr w' : World} {r c : Nat} {left : Lit -> Bool} {cnt : Nat} {S : Nat -> Prop} (h : wr.ranges Tryz.prog 3 secElem gp r c D left cnt) (ho : Only S wr w') (h1 : ¬ S gp) (h2 : ¬ S r) : w'.ranges Tryz.prog 3 secElem gp r c D left cnt := by
 have l1 := h.owns.lt
 have l2 := h.lt
 obtain ⟨es, clock, since, seen, c0, hb, F, hs, hD, hr, rest⟩ := h
 exact ⟨es, clock, since, seen, c0, (ho.block gp l1 h1).trans hb, F, hs, hD, (ho.block r l2 h2).trans hr, rest⟩
theorem PrB_eq (q : x'.TA = x.TA /\ x'.tn = x.tn /\ x'.tc = x.tc) : PrB g gd gp x' = PrB g gd gp x := by
 obtain ⟨q1, q2, q3⟩ := q
 funext j
 unfold PrB
 rw [q1, q2, q3]
theorem pflush (h : PrD w g gd gp n m x D) (ok : m.Ok n) : Calls Tryz.prog 135 #[.pointer (some ⟨g, 0, none⟩)] w (Left2 PD w g (PrB g gd gp x) n (.int .i64 m.flushE) (m.flushM n)) := by
 have C := lH (ppower_chk h ok)
 have CF := lH (pfails h ok)
 have OG := lH ok.go
 have n2 := ok.n2
 have same : Left2 PD w g (PrB g gd gp x) n (.int .i64 8) m (.returned (.int .i64 8)) w := ⟨rfl, ⟨_, ⟨gd, gp, x, D, h, rfl⟩, fun _ hk => .inl hk⟩, Only.refl _ _⟩
 have SM := lH same
 have HLT := lH h.lt
 clear same
 unfold RM.pE at C
 by_cases ho : m.off = true
 · have e1 : m.flushE = 8 := by unfold RM.flushE; rw [if_pos ho]
   have e2 : m.flushM n = m := by unfold RM.flushM; rw [if_pos ho]
   rw [e1, e2]
   rw [if_pos ho] at C
   clear h ok CF ho e1 e2
   go_enter Tryz.func135, Tryz.ntmps135
   go_wp2_with (go_at_call 158; refine C.out.mono ?_; rintro e w1' ⟨rfl, rfl⟩)
   go_ret
   exact SM.out
 · rw [if_neg ho] at C
   cases hgo : m.goB with
   | false =>
     have e1 : m.flushE = 8 := by unfold RM.flushE; rw [if_neg ho, hgo, if_neg (by decide)]
     have e2 : m.flushM n = m.goM := by unfold RM.flushM; rw [if_neg ho, hgo, if_neg (by decide)]
     rw [e1, e2]
     rw [hgo] at CF
     clear h ok ho e1 e2 hgo SM
     go_enter Tryz.func135, Tryz.ntmps135
     go_wp2_with (first
      | (go_at_call 158; refine C.out.mono ?_; rintro e w1' ⟨rfl, rfl⟩)
      | (go_at_call 159; refine CF.out.mono ?_; rintro e w1 ⟨rfl, ⟨x1, d1, q1, q2, q3⟩, o1⟩
         have D1 := lH d1
         have O1 := lH o1
         have Q1 := lH (And.intro q1 (And.intro q2 q3))
         clear d1 o1 q1 q2 q3))
     go_ret
     refine ⟨rfl, ⟨_, ⟨gd, gp, x1, D, D1.out, rfl⟩, fun j hj => .inl ?_⟩, O1.out.mono (fun j _ e => .inl e)⟩
     rwa [PrB_eq Q1.out] at hj
   | true =>
     have e1 : m.flushE = 0 := by unfold RM.flushE; rw [if_neg ho, hgo, if_pos rfl]
     have e2 : m.flushM n = m.goM.flK n := by unfold RM.flushM; rw [if_neg ho, hgo, if_pos rfl]
     rw [e1, e2]
     rw [hgo] at CF
     obtain ⟨M, hM⟩ : ∃ M, m.goM = M := ⟨_, rfl⟩
     rw [hM] at CF OG ⊢
     obtain ⟨W, hW, hW0⟩ := flush_end M n OG.out
     rw [hW]
     have HW0 := lH hW0
     clear h ok ho e1 e2 hgo SM hM hW hW0
     go_enter Tryz.func135, Tryz.ntmps135
     go_wp2_with (first
      | (go_at_call 158; refine C.out.mono ?_; rintro e w1' ⟨rfl, rfl⟩)
      | (go_at_call 159; refine CF.out.mono ?_; rintro e w1 ⟨rfl, ⟨x1, d1, q1, q2, q3⟩, o1⟩
         have k1 := d1.pm
         have D1 := lH d1
         have O1 := lH o1
         have Q1 := lH (And.intro q1 (And.intro q2 q3))
         clear d1 o1 q1 q2 q3)
      | (at_range; refine wpList_range_own _ rfl _ 178 rfl 3 235 intK Tryz.underlying178 secElem gp M.wrote D rfl D1.out.map ?_; intro w2 hrg0 hg0 hs0))
     go_frame
     have hF0 : FlS w w2 g gd gp n w1.heap.size M x1 D (Maps.has D) (Maps.size D) := by
      have e0 : mix M n (fun i => pendB M i && !Maps.has D (kI i)) = M.last := mix_none M n OG.out _ fun i hi => by
       show (pendB M i && !Maps.has D (kI i)) = false
       rw [D1.out.mo.hi i hi]
       show (decide _ && !decide _) = false
       cases decide ((M.wait.getD i emp).size ≠ 0) <;> rfl
      have oo : Only (fun _ => False) w1 w2 := Only.blocks hg0 (fun b e => by cases e)
      refine ⟨?_, hrg0, fun _ h => h, ?_⟩
      · rw [e0]
        exact D1.out.only oo (fun _ _ h => h)
      · obtain ⟨q1, q2, q3⟩ := Q1.out
        exact (O1.out.mono (fun j _ e => .inl e)).trans (oo.mono (fun _ _ h => h.elim))
     have F0 := lH hF0
     have hsz1 : w.heap.size <= w1.heap.size := O1.out.size
     clear hF0 hrg0 hg0 k1
     go_loopw [4, 5] (fun _ _ wr => ∃ (left : Lit -> Bool) (cnt : Nat), FlS w wr g gd gp n w1.heap.size M x1 D left cnt) (fun _ _ wr => wr.rangeLeft gp w1.heap.size)
     case atStart => exact ⟨_, _, F0.out⟩
     case round =>
      obtain ⟨left, cnt, hF⟩ := hrel
      have FR := lH hF
      have k0 := hF.d.du
      have k1 := hF.d.pm
      clear hF
      go_wp2_with (first
       | (at_next; refine wpList_next_ranges _ rfl _ rfl 3 intK secElem encZ id (fun key kl hk => by obtain ⟨x, hx, _⟩ := Maps.keyOf_i64 Tryz.underlying3 hk; exact ⟨x, hx⟩) (fun v _ _ => ⟨v, rfl⟩) gp w1.heap.size M.wrote D left cnt rfl FR.out.r ?_ ?_))
      · -- nothing is left
        intro hc0 hl0
        have eL : mix M n (fun i => pendB M i && !left (kI i)) = mix M n (pendB M) := mix_same M n _ _ fun i _ => by
         show (pendB M i && !left (kI i)) = pendB M i
         rw [hl0]
         cases pendB M i <;> rfl
        have EL := lH eL
        clear eL hl0 hc0
        go_wp2_with (first
         | (refine wpList_clearS rfl (.tmp 33) rfl rfl M.wrote FR.out.r.owns ?_; intro w9 own9 o9
            have W9 := lH own9
            have O9 := lH o9
            clear own9 o9))
        go_ret
        have DF := FR.out.d
        rw [EL.out] at DF
        have oo := FR.out.o.trans (O9.out.mono (fun j _ e => .inr (.inr (.inl e))))
        rw [PrB_eq Q1.out] at oo
        refine ⟨rfl, ⟨_, ⟨gd, gp, x1, .map [], DF.cleared W9.out O9.out HW0.out, rfl⟩, fun j hj => .inl ?_⟩, oo⟩
        rwa [PrB_eq Q1.out] at hj
      · -- an entry has come
        intro xx v kl yd yp w5 cnt2 hkey hlk hv hat hrg2 hlt hg2 hs2 hen
        obtain ⟨x', ex, rfl, _⟩ := Maps.keyOf_i64 Tryz.underlying3 hkey
        obtain rfl : xx = x' := encZ_inj ex
        obtain ⟨i, hi, ei⟩ := D1.out.mo.hs _ (FR.out.l _ hlk)
        obtain rfl : xx = (i : Int) := by unfold kI at ei; injection ei
        have hp : pendB M i = true := by have h1 := FR.out.l _ hlk; rw [ei, D1.out.mo.hi i hi] at h1; exact h1
        have hp' : (M.wait.getD i emp).size ≠ 0 := of_decide_eq_true hp
        have h512 : (M.wait.getD i emp).size = 512 := by have := OG.out.wsz hi; omega
        obtain ⟨l, rfl, hl, e2⟩ := secElem_inv hv
        rw [Prod.mk.injEq] at e2
        obtain ⟨rfl, rfl⟩ := e2
        obtain rfl : l = lst (M.wait.getD i emp) := by
         have h1 := hat .nil
         have h2 := D1.out.mo.at_ i hi hp' .nil
         unfold kI at h2
         rw [h2] at h1
         injection h1 with h1
         injection h1 with h1
         exact h1.symm
        obtain ⟨s, hs⟩ : ∃ s, M.wait.getD i emp = s := ⟨_, rfl⟩
        rw [hs] at h512 hp' hl hen
        have HS := lH hs
        have RG2 := lH hrg2
        have LK := lH hlk
        have G2 := lH hg2
        have HL := lH hl
        have HI := lH hi
        have SS := lH (sizeSec hl)
        have H512 := lH h512
        have HP := lH hp
        have sz5 : w1.heap.size < w5.heap.size := by rw [hs2]; exact FR.out.r.lt
        have hltc := lH hlt
        clear hv hat hkey hlk ei ex hp hs hrg2 hg2 hl hi h512 hlt hp' hs2
        go_upto_region 9 with (first
         | (refine wpList_allocW rfl 235 rfl _ zeroSecI ?_)
         | (refine wpList_store_row rfl 235 (.tmp 5) (.tmp 22) rfl w5.heap.size (cellsB (lst s)).toArray rfl rfl 235 _ (heap_alloc_new w5 _) SS.out (by rw [cellsB_size, cellsB_size, HL.out]; rfl) (cellsB_ones _) ?_))
        have Z1 : ((w5.alloc (.cells (cellsB (zer 512)).toArray 235)).setRow w5.heap.size (cellsB (lst s)).toArray).heap[w5.heap.size]? = some (.cells (cellsB (lst s)).toArray 235 (0, 0)) := setRow_heap _ _ _ _ 235 _ (heap_alloc_new w5 _)
        have B1 : Below w5.heap.size w5 ((w5.alloc (.cells (cellsB (zer 512)).toArray 235)).setRow w5.heap.size (cellsB (lst s)).toArray) := below_setRow ((Below.refl _ _).alloc (Nat.le_refl _) _) (Nat.le_refl _) _
        generalize World.setRow _ _ (cellsB (lst s)).toArray = w6 at Z1 B1 ⊢
        obtain ⟨w7, h7⟩ : ∃ w7, w6.drew = w7 := ⟨_, rfl⟩
        have Z7 : w7.heap[w5.heap.size]? = some (.cells (cellsB (lst s)).toArray 235 (0, 0)) := by rw [<- h7]; exact Z1
        have B7 : Below w5.heap.size w5 w7 := by rw [<- h7]; exact B1.drew
        have o5 : Only (fun j => j = w1.heap.size) wr w5 := Only.grown G2.out
        have ne5 : ∀ k, PrB g gd gp x1 k -> ¬ k = w1.heap.size := fun k hk e => by have := D1.out.lt k hk; omega
        have P5 : PrD w5 g gd gp n { M with last := mix M n (fun i => pendB M i && !left (kI i)) } x1 D := FR.out.d.only o5 ne5
        have P7 : PrD w7 g gd gp n { M with last := mix M n (fun i => pendB M i && !left (kI i)) } x1 D := P5.keepB B7
        have R7 := ranges_only RG2.out (Only.of_below (S := fun _ => False) B7 (Nat.le_refl _)) (fun h => h) (fun h => h)
        have OW7 : Only (PrB g gd gp x1) w w7 := (FR.out.o.new o5 hsz1).trans (Only.of_below B7 (Nat.le_refl _))
        have LD := lH (run_loadVar_row w7 w5.heap.size _ 235 _ (0, 0) _ Z7 Tryz.underlying235 rfl SS.out)
        have k7 : w6.cell? ⟨g, 0, none⟩ = some (.slice (some ⟨gd, 0, none⟩) n x1.cd) := by have := P7.du; rw [<- h7] at this; exact this
        have P7h := lH P7
        have R7h := lH R7
        have O7h := lH OW7
        have H7 := lH h7
        have hi' := HI.out
        clear Z1 B1 Z7 B7 o5 ne5 P5 P7 R7 OW7 h7
        go_still_tail 7, (by kernel_rfl)
        change wpStill _ _ w6.drew _ _ _
        rw [H7.out]
        refine wpStill_step (fun K hK => ?_)
        refine stillL2 rfl (ad := ⟨w5.heap.size, 0, none⟩) rfl LD.out ?_
        refine hK _ ?_
        clear hK K
        simp only [Act.put, List.setIfInBounds_toArray, List.set_cons_zero, List.set_cons_succ]
        still_step
        refine wpStill_nil ?_
        change wpList _ _ _ _ _ w6.drew
        rw [H7.out]
        have okL : ({ M with last := mix M n (fun i => pendB M i && !left (kI i)) } : RM).Ok n := OG.out.mixed (fun i _ h => by
         have h' : (pendB M i && !left (kI i)) = true := h
         rw [Bool.and_eq_true] at h'
         exact h'.1)
        have OL := lH okL
        clear okL k7
        obtain ⟨L, hL⟩ : ∃ L, mix M n (fun i => pendB M i && !left (kI i)) = L := ⟨_, rfl⟩
        rw [hL] at P7h OL
        have HLL := lH hL
        have fit : i * 512 + (cellsB (lst s)).toArray.size <= (cellsB (flat L) ++ x1.ex).toArray.size := by
         have h1 : (flat L).length = 512 * L.length := flat_len OL.out.ls
         have h2 : L.length = n := OL.out.nl
         simp only [List.size_toArray, List.length_append, cellsB_length, h1, h2, HL.out]
         omega
        have FT := lH fit
        clear hL fit
        go_wp2_with (first
         | (refine wpList_storePart rfl 235 (.tmp 29) (.tmp 28) rfl gd (i * 512) (cellsB (lst s)).toArray rfl rfl 235 (cellsB (flat L) ++ x1.ex).toArray P7h.out.row SS.out FT.out (fun v hv => cellsB_one _ v (by simpa using hv)) ?_
            change wpList _ _ _ _ _ (w7.setRow gd (secRow L x1.ex i (lst s)))))
        have o8 : Only (fun j => j = gd) w7 (w7.setRow gd (secRow L x1.ex i (lst s))) := (Only.refl _ _).setRow (S := fun j => j = gd) rfl _
        have R8 := ranges_only R7h.out o8 (fun e => P7h.out.d3 e.symm) (fun e => by have := D1.out.row.lt; omega)
        have P8 := P7h.out.setSec OL.out hi' H512.out
        have O8 : Only (PrB g gd gp x1) w (w7.setRow gd (secRow L x1.ex i (lst s))) := O7h.out.trans (o8.mono (fun j _ e => .inr (.inl e)))
        have eL : L.set i s = mix M n (fun j => pendB M j && !(left (kI j) && !(kI j).sameKey (kI i))) := by
         rw [<- HLL.out, <- HS.out]
         refine (mix_set M n _ _ i hi' ?_ fun j hj hne => ?_).symm
         · show (pendB M i && !(left (kI i) && !(kI i).sameKey (kI i))) = true
           rw [HP.out, WideAt.sameKey_self (kI_key i)]
           simp
         · show (pendB M j && !(left (kI j) && !(kI j).sameKey (kI i))) = (pendB M j && !left (kI j))
           rw [sameKey_ne (fun e => hne (kI_inj e))]
           simp
        have P8' : PrD (w7.setRow gd (secRow L x1.ex i (lst s))) g gd gp n { M with last := mix M n (fun j => pendB M j && !(left (kI j) && !(kI j).sameKey (kI i))) } x1 D := eL ▸ P8
        have P8h := lH P8'
        have R8h := lH R8
        have O8h := lH O8
        have ML : (w7.setRow gd (secRow L x1.ex i (lst s))).rangeLeft gp w1.heap.size < wr.rangeLeft gp w1.heap.size := by rw [R8.left_eq, FR.out.r.left_eq]; exact hltc.out
        have MLh := lH ML
        clear P8 P8' R8 O8 o8 eL ML
        generalize w7.setRow gd (secRow L x1.ex i (lst s)) = w8 at P8h R8h O8h MLh ⊢
        go_roundw
        case rel => exact ⟨_, _, _, _, _, _, _, _, _, _, _, _, _, _, ⟨fun z => left z && !z.sameKey (kI i), cnt2, P8h.out, R8h.out, fun kl hk => FR.out.l kl (by have hk' : (left kl && !kl.sameKey (kI i)) = true := hk; rw [Bool.and_eq_true] at hk'; exact hk'.1), O8h.out⟩, rfl⟩
        case measure => exact MLh.out
end
end Go.Proofs.YthoebjekkfhhgaaGreat
