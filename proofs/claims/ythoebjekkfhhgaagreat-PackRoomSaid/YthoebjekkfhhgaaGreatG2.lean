/-
  Own work.
-/
import Derived.Test.YthoebjekkfhhgaaGreatG1
import Derived.Laws.Concat
set_option linter.unusedVariables false
set_option linter.unusedSimpArgs false
namespace Go.Proofs.YthoebjekkfhhgaaGreat
open Go.RowKit
structure RM where
 last : List ByteArray
 wait : List ByteArray
 off : Bool
 arms : Int
 part : Int
 way : Int
 coming : ByteArray
 wrote : Nat
 powers : Nat
structure RM.Ok (m : RM) (n : Nat) : Prop where
 nl : m.last.length = n
 nw : m.wait.length = n
 n1 : 32 <= n
 n2 : n <= 4096
 ls : ∀ s ∈ m.last, s.size = 512
 ws : ∀ s ∈ m.wait, s.size = 0 \/ s.size = 512
 pt : 0 <= m.part /\ m.part <= 512
 ar : -1 <= m.arms /\ m.arms <= 9223372036854775807
 wy : -1 <= m.way /\ m.way < n
 cm : m.coming.size <= 512
 wr : m.wrote <= 1073741824
 pw : m.powers <= 1073741824
def RM.goB (m : RM) : Bool := decide (m.arms ≠ 0)
def RM.goM (m : RM) : RM := if m.arms < 0 then m else if 0 < m.arms then { m with arms := m.arms - 1 } else { m with off := true }
theorem RM.Ok.go {m : RM} {n : Nat} (h : m.Ok n) : m.goM.Ok n := by
 unfold RM.goM
 split
 · exact h
 · split
   · exact ⟨h.nl, h.nw, h.n1, h.n2, h.ls, h.ws, h.pt, ⟨by show -1 <= m.arms - 1; omega, by have := h.ar; show m.arms - 1 <= _; omega⟩, h.wy, h.cm, h.wr, h.pw⟩
   · exact ⟨h.nl, h.nw, h.n1, h.n2, h.ls, h.ws, h.pt, h.ar, h.wy, h.cm, h.wr, h.pw⟩
def RM.readE (m : RM) (n : Nat) (i : Int) : Int := if m.off = true then 8 else if i < 0 \/ (n : Int) <= i then 1 else 0
def RM.at_ (m : RM) (i : Nat) : ByteArray := if (m.wait.getD i ⟨#[]⟩).size = 0 then m.last.getD i ⟨#[]⟩ else m.wait.getD i ⟨#[]⟩
def RM.readS (m : RM) (n : Nat) (i : Int) : ByteArray := if m.readE n i = 0 then m.at_ i.toNat else ⟨#[]⟩
def RM.chk (m : RM) (n : Nat) (i : Int) (s : ByteArray) : Int := if m.off = true then 8 else if i < 0 \/ (n : Int) <= i then 1 else if s.size ≠ 512 then 9 else 0
def RM.writeE (m : RM) (n : Nat) (i : Int) (s : ByteArray) : Int := if m.chk n i s = 0 then (if m.goB = true then 0 else 8) else m.chk n i s
def RM.writeM (m : RM) (n : Nat) (i : Int) (s : ByteArray) : RM :=
 if m.chk n i s = 0 then (if m.goB = true then { m.goM with wait := m.goM.wait.set i.toNat s, wrote := m.goM.wrote + 1 } else { m.goM with way := i, coming := s.extract 0 m.goM.part.toNat }) else m
theorem RM.Ok.write {m : RM} {n : Nat} (h : m.Ok n) (i : Int) (s : ByteArray) (hw : m.wrote < 1073741824) : (m.writeM n i s).Ok n := by
 have hg := h.go
 have hgw : m.goM.wrote = m.wrote := by unfold RM.goM; split <;> (try split) <;> rfl
 unfold RM.writeM
 split
 · rename_i hc
   have h1 : 0 <= i /\ i < n /\ s.size = 512 := by
    unfold RM.chk at hc
    split at hc
    · cases hc
    · split at hc
      · cases hc
      · split at hc
        · cases hc
        · rename_i h2 h3
          omega
   split
   · refine ⟨hg.nl, by rw [List.length_set]; exact hg.nw, hg.n1, hg.n2, hg.ls, fun t ht => ?_, hg.pt, hg.ar, hg.wy, hg.cm, by show m.goM.wrote + 1 <= _; rw [hgw]; omega, hg.pw⟩
     rcases List.mem_or_eq_of_mem_set ht with h2 | h2
     · exact hg.ws t h2
     · exact .inr (h2 ▸ h1.2.2)
   · refine ⟨hg.nl, hg.nw, hg.n1, hg.n2, hg.ls, hg.ws, hg.pt, hg.ar, ⟨by show -1 <= i; omega, h1.2.1⟩, ?_, hg.wr, hg.pw⟩
     show (s.extract 0 m.goM.part.toNat).size <= 512
     rw [ByteArray.size_extract]
     omega
 · exact h
def emp : ByteArray := ⟨#[]⟩
def RM.flI (m : RM) (i : Nat) : RM := if (m.wait.getD i emp).size = 0 then m else { m with last := m.last.set i (m.wait.getD i emp), wait := m.wait.set i emp }
def RM.flK (m : RM) (k : Nat) : RM := (List.range k).foldl RM.flI m
theorem RM.flK_succ (m : RM) (k : Nat) : m.flK (k + 1) = (m.flK k).flI k := by unfold RM.flK; rw [List.range_succ, List.foldl_append]; rfl
theorem RM.Ok.flI {m : RM} {n : Nat} (h : m.Ok n) (i : Nat) : (m.flI i).Ok n := by
 unfold RM.flI
 split
 · exact h
 · rename_i hz
   by_cases hi : i < m.wait.length
   · have hm : m.wait.getD i emp ∈ m.wait := by
      rw [List.getD_eq_getElem?_getD, List.getElem?_eq_getElem hi]
      exact List.getElem_mem hi
     refine ⟨by rw [List.length_set]; exact h.nl, by rw [List.length_set]; exact h.nw, h.n1, h.n2, fun s hs => ?_, fun s hs => ?_, h.pt, h.ar, h.wy, h.cm, h.wr, h.pw⟩
     · rcases List.mem_or_eq_of_mem_set hs with h2 | h2
       · exact h.ls s h2
       · rcases h.ws _ hm with h3 | h3
         · exact absurd h3 hz
         · exact h2 ▸ h3
     · rcases List.mem_or_eq_of_mem_set hs with h2 | h2
       · exact h.ws s h2
       · exact .inl (h2 ▸ rfl)
   · exfalso
     apply hz
     rw [List.getD_eq_getElem?_getD, List.getElem?_eq_none (by omega)]
     rfl
theorem RM.Ok.flK {m : RM} {n : Nat} (h : m.Ok n) (k : Nat) : (m.flK k).Ok n := by
 induction k with
 | zero => exact h
 | succ k ih => rw [RM.flK_succ]; exact ih.flI k
def RM.flushE (m : RM) : Int := if m.off = true then 8 else if m.goB = true then 0 else 8
def RM.flushM (m : RM) (n : Nat) : RM := if m.off = true then m else if m.goB = true then m.goM.flK n else m.goM
theorem RM.Ok.flush {m : RM} {n : Nat} (h : m.Ok n) : (m.flushM n).Ok n := by
 unfold RM.flushM
 split
 · exact h
 · split
   · exact h.go.flK n
   · exact h.go
def RM.wtK (m : RM) (k : Nat) : List Nat := (List.range k).filter fun i => decide ((m.wait.getD i emp).size ≠ 0)
theorem RM.wtK_succ (m : RM) (k : Nat) : m.wtK (k + 1) = if (m.wait.getD k emp).size = 0 then m.wtK k else m.wtK k ++ [k] := by
 unfold RM.wtK
 rw [List.range_succ, List.filter_append]
 split
 · rename_i h
   have e : decide ((m.wait.getD k emp).size ≠ 0) = false := decide_eq_false (fun hn => hn h)
   rw [List.filter_cons, e]
   exact List.append_nil _
 · rename_i h
   have e : decide ((m.wait.getD k emp).size ≠ 0) = true := decide_eq_true h
   rw [List.filter_cons, e]
   rfl
def ints (l : List Nat) : List Value := l.map fun (x : Nat) => Value.int .i64 (x : Int)
def RetI (w : World) (l : List Nat) (e : Ending) (w' : World) : Prop := ∃ A n c, e = .returned (.slice A n c) /\ OwnV 3 w' w.heap.size (.slice A n c) (ints l) /\ Below w.heap.size w w'
def HasBo (w : World) (B : Nat) (A : Option Addr) (n : Nat) (l : List Bool) : Prop :=
 n = l.length /\ (0 < n -> ∃ g o, A = some ⟨g, o, none⟩ /\ g < B /\ ∀ i b, l[i]? = some b -> w.cell? ⟨g, o + i, none⟩ = some (.bool b))
theorem HasBo.only {S : Nat -> Prop} {w w' : World} {B n : Nat} {A : Option Addr} {l : List Bool} (h : HasBo w B A n l) (ho : Only S w w') (hB : B <= w.heap.size) (hS : ∀ k, k < B -> ¬ S k) : HasBo w' B A n l :=
 ⟨h.1, fun hn => by
  obtain ⟨g, o, e, hg, hc⟩ := h.2 hn
  refine ⟨g, o, e, hg, fun i b hb => ?_⟩
  rw [<- hc i b hb]
  unfold World.cell?
  show (match w'.heap[g]? with | _ => _) = _
  rw [ho.block g (by omega) (hS g hg)]⟩
def torn (c s : ByteArray) : ByteArray := c ++ s.extract c.size s.size
def zeroS : ByteArray := ⟨(List.replicate 512 (0 : UInt8)).toArray⟩
theorem zeroS_size : zeroS.size = 512 := by show (List.replicate 512 (0 : UInt8)).toArray.size = 512; rw [List.size_toArray, List.length_replicate]
def newM (n : Nat) : RM := { last := List.replicate n zeroS, wait := List.replicate n emp, off := false, arms := -1, part := 0, way := -1, coming := emp, wrote := 0, powers := 0 }
theorem newM_ok (n : Nat) (h1 : 32 <= n) (h2 : n <= 4096) : (newM n).Ok n := by
 refine ⟨by simp [newM], by simp [newM], h1, h2, fun s hs => ?_, fun s hs => ?_, by simp [newM], by simp [newM], ?_, by show emp.size <= 512; decide, by simp [newM], by simp [newM]⟩
 · rw [List.eq_of_mem_replicate hs]; exact zeroS_size
 · rw [List.eq_of_mem_replicate hs]; exact .inl rfl
 · show (-1 : Int) <= -1 /\ (-1 : Int) < n
   omega
theorem RM.goM_cnt (m : RM) : m.goM.wrote = m.wrote /\ m.goM.powers = m.powers := by unfold RM.goM; split <;> (try split) <;> exact ⟨rfl, rfl⟩
theorem RM.writeM_cnt (m : RM) (n : Nat) (i : Int) (s : ByteArray) : (m.writeM n i s).wrote <= m.wrote + 1 /\ (m.writeM n i s).powers = m.powers := by
 have := m.goM_cnt
 unfold RM.writeM
 split
 · split
   · exact ⟨by show m.goM.wrote + 1 <= _; omega, this.2⟩
   · exact ⟨by show m.goM.wrote <= _; omega, this.2⟩
 · exact ⟨by omega, rfl⟩
theorem RM.flK_cnt (m : RM) (k : Nat) : (m.flK k).wrote = m.wrote /\ (m.flK k).powers = m.powers := by
 induction k with
 | zero => exact ⟨rfl, rfl⟩
 | succ k ih =>
   rw [RM.flK_succ]
   unfold RM.flI
   split <;> exact ih
theorem RM.flushM_cnt (m : RM) (n : Nat) : (m.flushM n).wrote = m.wrote /\ (m.flushM n).powers = m.powers := by
 have h1 := m.goM_cnt
 have h2 := m.goM.flK_cnt n
 unfold RM.flushM
 split
 · exact ⟨rfl, rfl⟩
 · split
   · exact ⟨by omega, by omega⟩
   · exact h1
theorem RM.write_ok (m : RM) (n : Nat) (i : Int) (s : ByteArray) (h1 : m.off = false) (h2 : 0 <= i /\ i < n) (h3 : s.size = 512) (h4 : m.arms < 0) :
 m.writeE n i s = 0 /\ m.writeM n i s = { m with wait := m.wait.set i.toNat s, wrote := m.wrote + 1 } := by
 have hc : m.chk n i s = 0 := by unfold RM.chk; rw [if_neg (by rw [h1]; decide), if_neg (by omega), if_neg (by omega)]
 have hg : m.goB = true := by unfold RM.goB; rw [decide_eq_true_iff]; omega
 have hm : m.goM = m := by unfold RM.goM; rw [if_pos h4]
 constructor
 · unfold RM.writeE; rw [if_pos hc, if_pos hg]
 · unfold RM.writeM; rw [if_pos hc, if_pos hg, hm]
def RM.wt (m : RM) (i : Nat) : ByteArray := m.wait.getD i emp
def RM.ls (m : RM) (i : Nat) : ByteArray := m.last.getD i emp
theorem getD_set (l : List ByteArray) (i j : Nat) (s : ByteArray) (hi : i < l.length) : (l.set i s).getD j emp = if i = j then s else l.getD j emp := by
 rw [List.getD_eq_getElem?_getD, List.getD_eq_getElem?_getD, List.getElem?_set]
 split
 · rename_i h
   subst h
   first | rfl | (rw [if_pos hi]; rfl)
 · rfl
theorem RM.flK_at (m : RM) (n : Nat) (ok : m.Ok n) (k j : Nat) (hk : k <= n) :
 (m.flK k).ls j = (if j < k /\ (m.wt j).size ≠ 0 then m.wt j else m.ls j) /\ (m.flK k).wt j = if j < k /\ (m.wt j).size ≠ 0 then emp else m.wt j := by
 induction k with
 | zero => rw [if_neg (by omega), if_neg (by omega)]; exact ⟨rfl, rfl⟩
 | succ k ih =>
   obtain ⟨h1, h2⟩ := ih (by omega)
   have okk := ok.flK k
   have hw : (m.flK k).wt k = m.wt k := by
    clear h1 h2
    have : ∀ q, q <= k -> (m.flK q).wt k = m.wt k := by
     intro q
     induction q with
     | zero => intro _; rfl
     | succ q ih =>
       intro hq
       rw [<- ih (by omega), RM.flK_succ]
       unfold RM.flI
       split
       · rfl
       · show ((m.flK q).wait.set q emp).getD k emp = _
         rw [getD_set _ _ _ _ (by rw [(ok.flK q).nw]; omega), if_neg (by omega)]
         rfl
    exact this k (Nat.le_refl _)
   rw [RM.flK_succ]
   unfold RM.flI
   show (if ((m.flK k).wt k).size = 0 then m.flK k else _).ls j = _ /\ (if ((m.flK k).wt k).size = 0 then m.flK k else _).wt j = _
   rw [hw]
   by_cases hz : (m.wt k).size = 0
   · rw [if_pos hz, h1, h2]
     by_cases hj : j = k
     · subst hj
       rw [if_neg (by omega), if_neg (by omega), if_neg (by simp [hz]), if_neg (by simp [hz])]
       exact ⟨rfl, rfl⟩
     · constructor <;> (congr 1; rw [eq_iff_iff]; omega)
   · rw [if_neg hz]
     show ((m.flK k).last.set k ((m.flK k).wt k)).getD j emp = _ /\ ((m.flK k).wait.set k emp).getD j emp = _
     rw [getD_set _ _ _ _ (by rw [okk.nl]; omega), getD_set _ _ _ _ (by rw [okk.nw]; omega), hw]
     by_cases hj : k = j
     · subst hj
       rw [if_pos rfl, if_pos rfl, if_pos ⟨by omega, hz⟩, if_pos ⟨by omega, hz⟩]
       exact ⟨rfl, rfl⟩
     · rw [if_neg hj, if_neg hj]
       show (m.flK k).ls j = _ /\ (m.flK k).wt j = _
       rw [h1, h2]
       constructor <;> (congr 1; rw [eq_iff_iff]; omega)
def OwnX (w : World) (base : Nat) (v : Value) (l : List UInt8) : Prop := ∃ t, w.ownsRow base t 1 v l.length (cellsB l)
section
variable {w w' : World} {base n c : Nat} {A : Option Addr} {v : Value} {l : List UInt8}
theorem OwnB.x (h : OwnB w base v l) : OwnX w base v l := ⟨_, h⟩
theorem OwnX.form (h : OwnX w base v l) : (v = .slice none 0 0 /\ l = []) \/ ∃ t g c cur, v = .slice (some ⟨g, 0, none⟩) l.length c /\ base <= g /\ g < w.heap.size /\ w.heap[g]? = some (.cells cur t (0, 0)) /\ l.length <= c /\ c <= maxLen /\ cur.size = c /\ cur.toList.take l.length = cellsB l := by
 obtain ⟨t, h⟩ := h
 rcases h.2 with ⟨e, hn⟩ | ⟨g, c, cur, e, hb, hg, hn, hc, hs, ht⟩
 · exact .inl ⟨e, List.eq_nil_of_length_eq_zero hn⟩
 · exact .inr ⟨t, g, c, cur, e, hb, (Array.getElem?_eq_some_iff.1 hg).1, hg, hn, hc, by simpa using hs, by simpa using ht⟩
theorem OwnX.slice (h : OwnX w base v l) : ∃ A n c, v = .slice A n c /\ n <= c /\ c <= maxLen /\ HasB w w.heap.size A n l := by
 rcases h.form with ⟨e, rfl⟩ | ⟨t, g, c, cur, e, hb, hlt, hg, hn, hc, hs, ht⟩
 · exact ⟨none, 0, 0, e, by simp, by simp, HasB.nil _ _ _⟩
 · refine ⟨_, _, c, e, hn, hc, rfl, fun _ => ⟨g, 0, rfl, hlt, fun i b hib => ?_⟩⟩
   obtain ⟨t, h⟩ := h
   have := World.ownsRow.cells (w := w) h (g := g) (by rw [e]; rfl) i (.int .u8 (b.toNat : Int)) (by simp [cellsB, hib])
   simpa [Addr.add_lit] using this
theorem OwnX.has (h : OwnX w base (.slice A n c) l) : HasB w w.heap.size A n l := by
 obtain ⟨A', n', c', e, _, _, h3⟩ := h.slice
 simp only [Value.slice.injEq] at e
 obtain ⟨rfl, rfl, rfl⟩ := e
 exact h3
theorem OwnX.len (h : OwnX w base (.slice A n c) l) : n = l.length := h.has.1
theorem OwnX.caps (h : OwnX w base (.slice A n c) l) : n <= c /\ c <= maxLen := by
 obtain ⟨A', n', c', e, h1, h2, _⟩ := h.slice
 simp only [Value.slice.injEq] at e
 obtain ⟨rfl, rfl, rfl⟩ := e
 exact ⟨h1, h2⟩
theorem OwnX.head (h : OwnX w base (.slice A n c) l) (hn : 0 < n) : ∃ g, A = some ⟨g, 0, none⟩ /\ base <= g /\ g < w.heap.size /\ ∀ i b, l[i]? = some b -> w.cell? ⟨g, i, none⟩ = some (.int .u8 (b.toNat : Int)) := by
 have hl := h.len
 obtain ⟨g', o', e1, _, hcell⟩ := h.has.2 hn
 rcases h.form with ⟨e0, rfl⟩ | ⟨t, g, c2, cur, e0, hbg, hlt, _⟩
 · simp at hl; omega
 · simp only [Value.slice.injEq] at e0
   obtain ⟨rfl, -, -⟩ := e0
   simp only [Option.some.injEq, Addr.mk.injEq, and_true] at e1
   obtain ⟨rfl, rfl⟩ := e1
   exact ⟨g, rfl, hbg, hlt, fun i b hb => by simpa using hcell i b hb⟩
theorem OwnX.below (h : OwnX w base v l) (hb : Below w.heap.size w w') : OwnX w' base v l := by
 obtain ⟨t, h⟩ := h
 refine ⟨t, h.1, ?_⟩
 rcases h.2 with h2 | ⟨g, c, cur, e, h3, hg, r⟩
 · exact .inl h2
 · exact .inr ⟨g, c, cur, e, h3, by rw [hb.block g (Array.getElem?_eq_some_iff.1 hg).1]; exact hg, r⟩
theorem OwnX.nil (w : World) (base : Nat) : OwnX w base (.slice none 0 0) [] := (OwnB.nil w base).x
theorem OwnX.of_block {g : Nat} {t : TypeId} (h : w.heap[g]? = some (.cells (cellsB l).toArray t (0, 0))) (hb : base <= g) (hn : n = l.length) (hm : n <= maxLen) : OwnX w base (.slice (some ⟨g, 0, none⟩) n n) l := by
 subst hn
 exact ⟨t, by simp [cellsB], .inr ⟨g, _, _, rfl, hb, h, Nat.le_refl _, hm, by simp [cellsB], by
  show (cellsB l).take (l.length * 1) = cellsB l
  rw [Nat.mul_one]
  exact List.take_of_length_le (Nat.le_of_eq (cellsB_length l))⟩⟩
end
def RetXE (w : World) (l : List UInt8) (k : Int) (e : Ending) (w' : World) : Prop :=
 ∃ A n c, e = .returned (.tuple #[.slice A n c, .int .i64 k]) /\ OwnX w' w.heap.size (.slice A n c) l /\ Below w.heap.size w w'
def HasN (w : World) (S : Nat -> Prop) (A : Option Addr) (n : Nat) (l : List UInt8) : Prop :=
 n = l.length /\ (0 < n -> ∃ g o, A = some ⟨g, o, none⟩ /\ g < w.heap.size /\ ¬ S g /\ ∀ i b, l[i]? = some b -> w.cell? ⟨g, o + i, none⟩ = some (.int .u8 (b.toNat : Int)))
def HasNo (w : World) (S : Nat -> Prop) (A : Option Addr) (n : Nat) (l : List Bool) : Prop :=
 n = l.length /\ (0 < n -> ∃ g o, A = some ⟨g, o, none⟩ /\ g < w.heap.size /\ ¬ S g /\ ∀ i b, l[i]? = some b -> w.cell? ⟨g, o + i, none⟩ = some (.bool b))
theorem HasNo.nil (w : World) (S : Nat -> Prop) (A : Option Addr) : HasNo w S A 0 [] := ⟨rfl, fun h => absurd h (by simp)⟩
def strB (l : List UInt8) : ByteArray := ⟨l.toArray⟩
def lst (s : ByteArray) : List UInt8 := s.data.toList
theorem strB_size (l : List UInt8) : (strB l).size = l.length := rfl
def Left2 (D : World -> Nat -> (Nat -> Prop) -> Nat -> RM -> Prop) (w : World) (g : Nat) (S : Nat -> Prop) (n : Nat) (v : Value) (m : RM) (e : Ending) (w' : World) : Prop :=
 e = .returned v /\ (∃ S', D w' g S' n m /\ ∀ k, S' k -> S k \/ w.heap.size <= k) /\ Only S w w'
structure DK where
 D : World -> Nat -> (Nat -> Prop) -> Nat -> RM -> Prop
 lt : ∀ {w g S n m}, D w g S n m -> ∀ k, S k -> k < w.heap.size
 only : ∀ {w w' g S T n m}, D w g S n m -> Only T w w' -> (∀ k, S k -> ¬ T k) -> D w' g S n m
 len_q : ∀ {w g S n m}, D w g S n m -> m.Ok n -> Calls Tryz.prog 103 #[.pointer (some ⟨g, 0, none⟩)] w fun e w' => e = .returned (.int .i64 (n : Int)) /\ w = w'
 lives_q : ∀ {w g S n m}, D w g S n m -> m.Ok n -> Calls Tryz.prog 107 #[.pointer (some ⟨g, 0, none⟩)] w fun e w' => e = .returned (.int .i64 (m.powers : Int)) /\ w = w'
 new_any : ∀ w (n : Nat), 32 <= n -> n <= 4096 -> Calls Tryz.prog 67 #[.int .i64 (n : Int)] w fun e w' => ∃ g S, e = .returned (.pointer (some ⟨g, 0, none⟩)) /\ D w' g S n (newM n) /\ (∀ k, S k -> w.heap.size <= k) /\ Below w.heap.size w w'
 new_no : ∀ w (i : Int), i < 32 \/ 4096 < i -> -9223372036854775808 <= i /\ i <= 9223372036854775807 -> Calls Tryz.prog 67 #[.int .i64 i] w fun e w' => e = .returned (.pointer none) /\ Below w.heap.size w w'
 len_any : ∀ {w g S n m}, D w g S n m -> m.Ok n -> Calls Tryz.prog 103 #[.pointer (some ⟨g, 0, none⟩)] w fun e w' => e = .returned (.int .i64 (n : Int)) /\ Below w.heap.size w w'
 lives_any : ∀ {w g S n m}, D w g S n m -> m.Ok n -> Calls Tryz.prog 107 #[.pointer (some ⟨g, 0, none⟩)] w fun e w' => e = .returned (.int .i64 (m.powers : Int)) /\ Below w.heap.size w w'
 read_any : ∀ {w g S n m} (i : Int), D w g S n m -> m.Ok n -> -9223372036854775808 <= i /\ i <= 9223372036854775807 -> Calls Tryz.prog 162 #[.pointer (some ⟨g, 0, none⟩), .int .i64 i] w (RetXE w (lst (m.readS n i)) (m.readE n i))
 write_any : ∀ {w g S n m} (i : Int) (A : Option Addr) (q c : Nat) (l : List UInt8), D w g S n m -> m.Ok n -> m.wrote < 1073741824 -> -9223372036854775808 <= i /\ i <= 9223372036854775807 -> HasN w S A q l -> q <= c -> q <= 1073741824 ->
  Calls Tryz.prog 136 #[.pointer (some ⟨g, 0, none⟩), .int .i64 i, .slice A q c] w (Left2 D w g S n (.int .i64 (m.writeE n i (strB l))) (m.writeM n i (strB l)))
 flush_any : ∀ {w g S n m}, D w g S n m -> m.Ok n -> Calls Tryz.prog 135 #[.pointer (some ⟨g, 0, none⟩)] w (Left2 D w g S n (.int .i64 m.flushE) (m.flushM n))
section
variable {K : DK} {w0 w w' : World} {g n : Nat} {m m' : RM} {v : Value} {e : Ending}
def DK.Own (K : DK) (w0 w : World) (g n : Nat) (m : RM) : Prop := ∃ S, K.D w g S n m /\ (∀ k, S k -> w0.heap.size <= k) /\ Below w0.heap.size w0 w
theorem DK.Own.bel (h : K.Own w0 w g n m) : Below w0.heap.size w0 w := by obtain ⟨S, _, _, h3⟩ := h; exact h3
theorem DK.Own.below (h : K.Own w0 w g n m) (hb : Below w.heap.size w w') : K.Own w0 w' g n m := by
 obtain ⟨S, h1, h2, h3⟩ := h
 exact ⟨S, K.only h1 (Only.of_below (S := fun _ => False) hb (Nat.le_refl _)) (fun _ _ h => h), h2, h3.trans (hb.mono h3.size)⟩
theorem DK.Own.drew (h : K.Own w0 w g n m) : K.Own w0 w.drew g n m := by
 obtain ⟨S, h1, h2, h3⟩ := h
 exact ⟨S, K.only h1 (Only.refl (fun _ => False) w).drew (fun _ _ h => h), h2, h3.drew⟩
end
structure OwD (Z : DK) (w W : World) (g : Nat) (S : Nat -> Prop) (n : Nat) (m : RM) : Prop where
 d : Z.D W g S n m
 s0 : ∀ k, S k -> w.heap.size <= k
 bel : Below w.heap.size w W
section
variable {Z : DK} {w W W' : World} {g n : Nat} {S T : Nat -> Prop} {m m' : RM} {v : Value} {e : Ending}
theorem OwD.below (h : OwD Z w W g S n m) (hb : Below W.heap.size W W') : OwD Z w W' g S n m :=
 ⟨Z.only h.d (Only.of_below (S := fun _ => False) hb (Nat.le_refl _)) (fun _ _ h => h), h.s0, h.bel.trans (hb.mono h.bel.size)⟩
theorem OwD.drew (h : OwD Z w W g S n m) : OwD Z w W.drew g S n m := ⟨Z.only h.d (Only.refl (fun _ => False) W).drew (fun _ _ h => h), h.s0, h.bel.drew⟩
theorem OwD.alloc (h : OwD Z w W g S n m) (o : Obj) : OwD Z w (W.alloc o) g S n m := h.below ((Below.refl _ _).alloc (Nat.le_refl _) o)
theorem OwD.slt (h : OwD Z w W g S n m) : ∀ k, S k -> k < W.heap.size := fun k hk => Z.lt h.d k hk
theorem OwD.step (h : OwD Z w W g S n m) (l : Left2 Z.D W g S n v m' e W') : ∃ S', OwD Z w W' g S' n m' := by
 obtain ⟨_, ⟨S', d', hs⟩, ho⟩ := l
 refine ⟨S', d', fun k hk => ?_, h.bel.trans (ho.to_below h.s0 h.bel.size)⟩
 rcases hs k hk with h1 | h1
 · exact h.s0 k h1
 · exact Nat.le_trans h.bel.size h1
end
def over (s : List UInt8) (p : Nat) (b : List UInt8) : List UInt8 := s.take p ++ b ++ s.drop (p + b.length)
theorem over_len {s b : List UInt8} {p : Nat} (h : p + b.length <= s.length) : (over s p b).length = s.length := by
 unfold over
 simp only [List.length_append, List.length_take, List.length_drop]
 omega
theorem over_512 {s b : List UInt8} {p : Nat} (hs : s.length = 512) (h : p + b.length <= 512) : (over s p b).length = 512 := by rw [over_len (by omega), hs]
theorem over_be {s : List UInt8} {p k v : Nat} (hs : s.length = 512) (h : p + k <= 512) : (over s p (be k v)).length = 512 := over_512 hs (by rw [be_length]; exact h)
theorem over_nil (s : List UInt8) (p : Nat) : over s p [] = s := by unfold over; simp
theorem over_at {s b : List UInt8} {p : Nat} (h : p + b.length <= s.length) (j : Nat) : (over s p b)[j]? = if p <= j /\ j < p + b.length then b[j - p]? else s[j]? := by
 unfold over
 have h1 : (s.take p).length = p := by rw [List.length_take]; omega
 by_cases h2 : j < p
 · rw [if_neg (by omega), List.append_assoc, List.getElem?_append_left (by omega), List.getElem?_take, if_pos h2]
 · by_cases h3 : j < p + b.length
   · rw [if_pos ⟨by omega, h3⟩, List.getElem?_append_left (by rw [List.length_append]; omega), List.getElem?_append_right (by omega), h1]
   · rw [if_neg (by omega), List.getElem?_append_right (by rw [List.length_append]; omega), List.length_append, h1, List.getElem?_drop]
     congr 1
     omega
def sub (s : List UInt8) (p k : Nat) : List UInt8 := (s.drop p).take k
theorem sub_len {s : List UInt8} {p k : Nat} (h : p + k <= s.length) : (sub s p k).length = k := by
 unfold sub
 rw [List.length_take, List.length_drop]
 omega
def tagOf (s : List UInt8) : Nat := if num (sub s 0 8) = num (sub s 504 8) then num (sub s 0 8) else 0
def setTag (s : List UInt8) (v : Nat) : List UInt8 := over (over s 0 (be 8 v)) 504 (be 8 v)
def zsec : List UInt8 := zer 512
theorem zsec_len : zsec.length = 512 := zer_len 512
def anc (s t p r : Nat) : List UInt8 := over (over (over (setTag zsec s) 8 (be 8 t)) 16 (be 4 p)) 20 (be 4 r)
theorem setTag_len {s : List UInt8} {v : Nat} (h : s.length = 512) : (setTag s v).length = 512 := by
 exact over_be (over_be h (by omega)) (by omega)
theorem anc_len (s t p r : Nat) : (anc s t p r).length = 512 := by
 exact over_be (over_be (over_be (setTag_len zsec_len) (by omega)) (by omega)) (by omega)
structure Ch where
 home : Nat
 data : List UInt8
def hdrK (t : Nat) (l : List Ch) (k : Nat) : List UInt8 :=
 (List.range k).foldl (fun s i => over (over s (16 + 12 * i) (be 4 (l.getD i ⟨0, []⟩).home)) (16 + 12 * i + 4) ((l.getD i ⟨0, []⟩).data.take 8)) (over (setTag zsec (2 * t + 1)) 8 (be 2 l.length))
def hdr (t : Nat) (l : List Ch) : List UInt8 := hdrK t l l.length
theorem hdrK_succ (t : Nat) (l : List Ch) (k : Nat) : hdrK t l (k + 1) = over (over (hdrK t l k) (16 + 12 * k) (be 4 (l.getD k ⟨0, []⟩).home)) (16 + 12 * k + 4) ((l.getD k ⟨0, []⟩).data.take 8) := by
 unfold hdrK
 rw [List.range_succ, List.foldl_append]
 rfl
theorem hdrK_len (t : Nat) (l : List Ch) (k : Nat) (hk : k <= 40) : (hdrK t l k).length = 512 := by
 induction k with
 | zero =>
   show (over (setTag zsec (2 * t + 1)) 8 (be 2 l.length)).length = 512
   exact over_be (setTag_len zsec_len) (by omega)
 | succ k ih =>
   have ih := ih (by omega)
   rw [hdrK_succ]
   have h8 : ((l.getD k ⟨0, []⟩).data.take 8).length <= 8 := by rw [List.length_take]; omega
   exact over_512 (over_be ih (by omega)) (by omega)
theorem hdr_len (t : Nat) (l : List Ch) (h : l.length <= 40) : (hdr t l).length = 512 := hdrK_len t l _ h
def tagged (s : List UInt8) (t : Nat) : List UInt8 := over s 0 (be 8 (2 * t))
theorem tagged_len {s : List UInt8} (h : s.length = 512) (t : Nat) : (tagged s t).length = 512 := by
 exact over_be h (by omega)
structure Pt where
 m : RM
 e : Int
def Pt.rdS (p : Pt) (n : Nat) (i : Int) : List UInt8 := if p.e = 0 /\ p.m.readE n i = 0 then lst (p.m.readS n i) else zsec
def Pt.rd (p : Pt) (n : Nat) (i : Int) : Pt := if p.e = 0 then { p with e := p.m.readE n i } else p
def Pt.wr (p : Pt) (n : Nat) (i : Int) (s : List UInt8) : Pt := if p.e = 0 then ⟨p.m.writeM n i (strB s), p.m.writeE n i (strB s)⟩ else p
def Pt.fl (p : Pt) (n : Nat) : Pt := if p.e = 0 then ⟨p.m.flushM n, p.m.flushE⟩ else p
structure Mk where
 num : Nat
 turn : Nat
 pos : Nat
 ring : Nat
def Mk.ahead (k : Mk) (i : Nat) : Nat := (k.pos + i) % k.ring
def Mk.inRing (k : Mk) (i : Nat) : Nat := 2 + k.ahead i
def Mk.atHome (k : Mk) (i : Nat) : Nat := 2 + k.ring + i
def Mk.anc (k : Mk) : List UInt8 := Go.Proofs.YthoebjekkfhhgaaGreat.anc k.num k.turn k.pos k.ring
def Pt.anchor (p : Pt) (n : Nat) (k : Mk) : Pt := (p.wr n ((k.num % 2 : Nat) : Int) k.anc).fl n
def fitsB (n : Nat) (ring : Int) : Bool := decide (8 <= ring /\ ring <= 1024 /\ (n : Int) - 2 - ring ≥ 8)
def markS (s : List UInt8) : Mk := ⟨tagOf s, num (sub s 8 8), num (sub s 16 4), num (sub s 20 4)⟩
def markB (n : Nat) (s : List UInt8) : Bool :=
 decide (tagOf s ≠ 0 /\ 1 <= num (sub s 8 8) /\ num (sub s 8 8) < 4611686018427387904 /\ fitsB n (num (sub s 20 4) : Int) = true /\ num (sub s 16 4) < num (sub s 20 4))
structure JM where
 k : Mk
 lives : Nat
 used : Nat
 fresh : List ByteArray
def JM.homes (j : JM) (n : Nat) : Nat := n - 2 - j.k.ring
def frK (f : List ByteArray) (k : Nat) : List Nat := (List.range k).filter fun i => decide ((f.getD i emp).size ≠ 0)
def fmtK (p : Pt) (n : Nat) (k : Nat) : Pt := (List.range k).foldl (fun (p : Pt) (i : Nat) => (if i = 2 then p.fl n else p).wr n (i : Int) zsec) p
def fmtP (m : RM) (n : Nat) (ring : Nat) : Pt := ((fmtK ⟨m, 0⟩ n n).fl n).anchor n ⟨1, 1, 0, ring⟩
def stK (p : Pt) (n : Nat) (k : Mk) (l : List Ch) (i : Nat) : Pt := (List.range i).foldl (fun p q => p.wr n (k.inRing (1 + q) : Nat) (tagged (l.getD q ⟨0, []⟩).data k.turn)) (p.wr n (k.inRing 0 : Nat) zsec)
def stP (p : Pt) (n : Nat) (k : Mk) (l : List Ch) : Pt := (((stK p n k l l.length).fl n).wr n (k.inRing 0 : Nat) (hdr k.turn l)).fl n
def takeF (f : List ByteArray) (l : List Ch) : List ByteArray := l.foldl (fun f c => f.set c.home (strB c.data)) f
def JM.take (j : JM) (l : List Ch) : JM := { j with k := { j.k with pos := j.k.ahead (l.length + 1), turn := j.k.turn + 1 }, used := j.used + (l.length + 1), fresh := takeF j.fresh l }
def cpK (p : Pt) (n : Nat) (j : JM) (is : List Nat) : Pt := is.foldl (fun p i => p.wr n (j.k.atHome i : Nat) (lst (j.fresh.getD i emp))) p
def JM.next (j : JM) : Mk := { j.k with num := j.k.num + 1 }
def cpP (p : Pt) (n : Nat) (j : JM) : Pt := ((cpK p n j (frK j.fresh j.fresh.length)).fl n).anchor n j.next
def JM.clean (j : JM) : JM := { j with k := j.next, used := 0, fresh := List.replicate j.fresh.length emp }
def ckE (p : Pt) (n : Nat) (j : JM) : Int :=
 if frK j.fresh j.fresh.length = [] then 0 else if j.k.num ≥ 4611686018427387904 \/ j.k.turn ≥ 4611686018427387904 then 7 else (cpP p n j).e
def ckP (p : Pt) (n : Nat) (j : JM) : Pt :=
 if frK j.fresh j.fresh.length = [] then p else if j.k.num ≥ 4611686018427387904 \/ j.k.turn ≥ 4611686018427387904 then p else cpP p n j
def ckJ (p : Pt) (n : Nat) (j : JM) : JM :=
 if frK j.fresh j.fresh.length = [] then j else if j.k.num ≥ 4611686018427387904 \/ j.k.turn ≥ 4611686018427387904 then j else if (cpP p n j).e = 0 then j.clean else j
def chkE (p : Pt) (j : JM) : Int := if p.e ≠ 0 \/ p.m.powers ≠ j.lives then 8 else 0
structure Pu where
 i : Int
 data : List UInt8
def lsE (h : Nat) : List Int -> List Pu -> Int
 | _, [] => 0
 | seen, x :: r => if x.i ∈ seen \/ x.i < 0 \/ (h : Int) <= x.i then 1 else if x.data.length ≠ 512 then 9 else lsE h (x.i :: seen) r
def lstE (n : Nat) (j : JM) (l : List Pu) : Int :=
 if lsE (j.homes n) [] l ≠ 0 then lsE (j.homes n) [] l else if 40 < l.length \/ j.k.ring <= l.length then 2 else 0
def chs (l : List Pu) : List Ch := l.map fun x => ⟨x.i.toNat, x.data⟩
structure Res where
 e : Int
 p : Pt
 j : JM
def cmt (p : Pt) (n : Nat) (j : JM) (l : List Pu) : Res :=
 if chkE p j ≠ 0 then ⟨8, p, j⟩
 else if lstE n j l ≠ 0 then ⟨lstE n j l, p, j⟩
 else if l = [] then ⟨0, p, j⟩
 else if j.k.turn ≥ 4611686018427387903 then ⟨7, p, j⟩
 else
  if l.length + 1 > j.k.ring - j.used then
   if ckE p n j ≠ 0 then ⟨ckE p n j, ckP p n j, ckJ p n j⟩
   else (if (stP (ckP p n j) n (ckJ p n j).k (chs l)).e ≠ 0 then ⟨(stP (ckP p n j) n (ckJ p n j).k (chs l)).e, stP (ckP p n j) n (ckJ p n j).k (chs l), ckJ p n j⟩ else ⟨0, stP (ckP p n j) n (ckJ p n j).k (chs l), (ckJ p n j).take (chs l)⟩)
  else (if (stP p n j.k (chs l)).e ≠ 0 then ⟨(stP p n j.k (chs l)).e, stP p n j.k (chs l), j⟩ else ⟨0, stP p n j.k (chs l), j.take (chs l)⟩)
def jrE (p : Pt) (n : Nat) (j : JM) (i : Int) : Int :=
 if chkE p j ≠ 0 then 8 else if i < 0 \/ (j.homes n : Int) <= i then 1 else if (j.fresh.getD i.toNat emp).size ≠ 0 then 0 else p.m.readE n (j.k.atHome i.toNat : Nat)
def jrS (p : Pt) (n : Nat) (j : JM) (i : Int) : List UInt8 :=
 if jrE p n j i ≠ 0 then [] else if (j.fresh.getD i.toNat emp).size ≠ 0 then lst (j.fresh.getD i.toNat emp) else lst (p.m.readS n (j.k.atHome i.toNat : Nat))
def jrP (p : Pt) (n : Nat) (j : JM) (i : Int) : Pt :=
 if chkE p j ≠ 0 then p else if i < 0 \/ (j.homes n : Int) <= i then p else if (j.fresh.getD i.toNat emp).size ≠ 0 then p else p.rd n (j.k.atHome i.toNat : Nat)
def newK (m : RM) (n : Nat) : Nat -> Mk
 | 0 => ⟨0, 0, 0, 0⟩
 | i + 1 => if markB n (lst (m.readS n (i : Int))) = true /\ (newK m n i).num < tagOf (lst (m.readS n (i : Int))) then markS (lst (m.readS n (i : Int))) else newK m n i
def ldK (m : RM) (n : Nat) (k : Mk) (h : Nat) (s : List UInt8) : Nat -> Option (List Ch)
 | 0 => some []
 | q + 1 => match ldK m n k h s q with
   | none => none
   | some l =>
     let d := lst (m.readS n (k.inRing (1 + q) : Nat))
     let home := num (sub s (16 + 12 * q) 4)
     if home ∈ l.map Ch.home \/ h <= home \/ num (sub d 0 8) ≠ 2 * k.turn then none else some (l ++ [⟨home, over d 0 (sub s (16 + 12 * q + 4) 8)⟩])
def ldL (m : RM) (n : Nat) (k : Mk) (h : Nat) : List Ch :=
 let s := lst (m.readS n (k.inRing 0 : Nat))
 if tagOf s ≠ 2 * k.turn + 1 \/ 40 < num (sub s 8 2) \/ k.ring <= num (sub s 8 2) then [] else (ldK m n k h s (num (sub s 8 2))).getD []
def rep (m : RM) (n : Nat) : Nat -> JM -> JM
 | 0, j => j
 | f + 1, j => if ldL m n j.k (j.homes n) = [] then j else rep m n f (j.take (ldL m n j.k (j.homes n)))
end Go.Proofs.YthoebjekkfhhgaaGreat
