/-
  Own work.
-/
import Derived.Test.YthoebjekkfhhgaaGreatSb
import Derived.Test.YthoebjekkfhhgaaGreatG7
import Derived.Deep.Grids
import Derived.Deep.Slices
set_option linter.unusedVariables false
set_option linter.unusedSimpArgs false
namespace Go.Proofs.YthoebjekkfhhgaaGreat
open Go.RowKit
def spC (gr h c : Nat) (rs : List Nat) : List Value := .slice (some ⟨gr, 0, none⟩) h c :: rs.map (fun (v : Nat) => Value.int .u32 (Int.ofNat v))
structure SpR (w : World) (base gs gr c : Nat) (l : List Bool) (rs : List Nat) : Prop where
 blk : w.heap[gs]? = some (.cells (spC gr l.length c rs).toArray 33 (0, 0))
 row : OwnV 4 w base (.slice (some ⟨gr, 0, none⟩) l.length c) (l.map Value.bool)
 ne : gs ≠ gr
section
variable {w w' : World} {base gs gr c h : Nat} {l : List Bool} {rs : List Nat} {b : List UInt8}
theorem SpR.at_ (a : SpR w base gs gr c l rs) {i : Nat} {x : Bool} (hx : l[i]? = some x) : w.cell? ⟨gr, i, none⟩ = some (.bool x) := by
 have hi := (List.getElem?_eq_some_iff.1 hx).1
 obtain ⟨g', e, _, _, hc⟩ := a.row.at_ (by omega)
 simp only [Option.some.injEq, Addr.mk.injEq, and_true] at e
 subst e
 exact hc i _ (by rw [List.getElem?_map, hx]; rfl)
theorem SpR.free (a : SpR w base gs gr c l rs) (i : Nat) : w.frozen? ⟨gr, i, none⟩ = false := by
 rcases a.row.form with ⟨e, _⟩ | ⟨g2, c', cur, e, _, _, hg, _⟩
 · cases e
 · simp only [Value.slice.injEq, Option.some.injEq, Addr.mk.injEq, and_true] at e
   obtain ⟨rfl, -, -⟩ := e
   exact frozen_of_row w gr i _ _ hg
theorem SpR.only {S : Nat -> Prop} (a : SpR w base gs gr c l rs) (ho : Only S w w') (h1 : ¬ S gs) (h2 : ¬ S gr) : SpR w' base gs gr c l rs :=
 ⟨(ho.block gs (Array.getElem?_eq_some_iff.1 a.blk).1 h1).trans a.blk, a.row.only ho (fun k hk => by have h2' : some gr = some k := hk; injection h2' with h2'; rw [<- h2']; exact h2), a.ne⟩
theorem SpR.set (a : SpR w base gs gr c l rs) {i : Nat} (hi : i < l.length) (x : Bool) : SpR (w.setCell ⟨gr, i, none⟩ (.bool x)) base gs gr c (l.set i x) rs := by
 refine ⟨?_, ?_, a.ne⟩
 · rw [List.length_set]
   exact (heap_setCell_other w ⟨gr, i, none⟩ gs _ a.ne).trans a.blk
 · have hr := a.row
   refine ⟨by simp, ?_⟩
   rcases hr.2 with ⟨e, _⟩ | ⟨g2, c2, cur, e, hb, hg, h1, h2, h3, h4⟩
   · cases e
   · simp only [Value.slice.injEq, Option.some.injEq, Addr.mk.injEq, and_true] at e
     obtain ⟨rfl, e2, rfl⟩ := e
     refine .inr ⟨gr, c, cur.setIfInBounds i (.bool x), by simp, hb, heap_setCell_same w gr i _ _ _ hg, by simpa using h1, h2, by simpa using h3, ?_⟩
     have : (cur.setIfInBounds i (.bool x)).toList = cur.toList.set i (.bool x) := by simp
     rw [this, List.take_set]
     have h4' : cur.toList.take (l.length * 1) = l.map Value.bool := by simpa using h4
     simp only [List.length_map, List.length_set, List.map_set]
     rw [h4']
end
theorem step_store_row8 {P : Program} {ops : Array Oper} {o : Oper} {a : Act} {w : World} {K : Act -> World -> Prop} {Q : Exit -> Act -> World -> Prop} {F : Prop} (hw : Region.wanted o (yielded ops a.tmps) = true) (ty : TypeId) (x y : Operand) (ho : o.op = .store ty x y)
 (g : Nat) (cells : Array Value) (hx : a.eval x = .pointer (some ⟨g, 0, none⟩)) (hy : a.eval y = .agg cells) (t : TypeId) (cur : Array Value) (hg : w.heap[g]? = some (.cells cur t (0, 0))) (hi : (P.info? ty).map (·.size) = some cells.size)
 (hz : cur.size = cells.size) (h1 : ∀ v ∈ cells.toList, v.oneCell' = true) (h : K (a.put o.dst undef) (w.setRow g cells)) :
 if Region.wanted o (yielded ops a.tmps) = true then Oper.wp P o a w K Q else F := by
 rw [if_pos hw]
 refine wp_store_part ty x y ho g 0 cells hx hy t cur hg hi (by omega) h1 ?_
 have e : (cur.toList.take 0 ++ cells.toList ++ cur.toList.drop (0 + cells.size)).toArray = cells := by
  rw [List.take_zero, List.nil_append, List.drop_of_length_le (by rw [Array.length_toList]; omega), List.append_nil]
 rw [e]
 exact h
theorem wpList_store_row8 {P : Program} {ops : Array Oper} {rest : List Oper} {o : Oper} {a : Act} {w : World} {Q : Exit -> Act -> World -> Prop} (hgd : o.guard = none) (ty : TypeId) (x y : Operand) (ho : o.op = .store ty x y)
 (g : Nat) (cells : Array Value) (hx : a.eval x = .pointer (some ⟨g, 0, none⟩)) (hy : a.eval y = .agg cells) (t : TypeId) (cur : Array Value) (hg : w.heap[g]? = some (.cells cur t (0, 0))) (hi : (P.info? ty).map (·.size) = some cells.size)
 (hz : cur.size = cells.size) (h1 : ∀ v ∈ cells.toList, v.oneCell' = true) (h : wpList P ops Q rest (a.put o.dst undef) (w.setRow g cells)) : wpList P ops Q (o :: rest) a w := by
 refine wpList_plain hgd fun K hK => wp_store_part ty x y ho g 0 cells hx hy t cur hg hi (by omega) h1 ?_
 have e : (cur.toList.take 0 ++ cells.toList ++ cur.toList.drop (0 + cells.size)).toArray = cells := by
  rw [List.take_zero, List.nil_append, List.drop_of_length_le (by rw [Array.length_toList]; omega), List.append_nil]
 rw [e]
 exact hK _ _ h
theorem wpList_load8 {P : Program} {ops : Array Oper} {rest : List Oper} {o : Oper} {a : Act} {w : World} {Q : Exit -> Act -> World -> Prop} (hg : o.guard = none) (ty : TypeId) (x : Operand) (ho : o.op = .load ty x)
 (ad : Addr) (hx : a.eval x = .pointer (some ad)) (v : Value) (hl : (loadVar ty ad).run P w = .ok v w) (h : wpList P ops Q rest (a.put o.dst v) w) : wpList P ops Q (o :: rest) a w := by
 refine wpList_plain hg fun K hK => ?_
 unfold Oper.wp execOp
 simp only [ho, hx, Instr.loadAt, Instr.sureAddr, Sem.run_bind, Sem.run_pure, Result.andThen_ok, hl]
 exact hK _ _ h
end Go.Proofs.YthoebjekkfhhgaaGreat
namespace Go.Proofs.YthoebjekkfhhgaaGreat
open Go.RowKit Go.Deep Go.ChangeShapes
structure Op8R where
 kind : Int
 at_ : Int
 n : Int
 v : Int
def Op8R.cells (o : Op8R) : List Value := [.int .i64 o.kind, .int .i64 o.at_, .int .i64 o.n, .int .u32 o.v]
structure Op8Ok (o : Op8R) : Prop where
 bk : -9223372036854775808 <= o.kind /\ o.kind <= 9223372036854775807
 ba : -9223372036854775808 <= o.at_ /\ o.at_ <= 9223372036854775807
 bn : -9223372036854775808 <= o.n /\ o.n <= 9223372036854775807
 bv : 0 <= o.v /\ o.v <= 4294967295
def HasOps8 (w : World) (B : Nat) (A : Option Addr) (n : Nat) (ops : List Op8R) : Prop :=
 n = ops.length /\ (∀ op ∈ ops, Op8Ok op) /\ (0 < n -> ∃ g o, A = some ⟨g, o, none⟩ /\ g < B /\ ∀ i op, ops[i]? = some op -> ∀ k v, op.cells[k]? = some v -> w.cell? ⟨g, o + (4 * i + k), none⟩ = some v)
theorem HasOps8.below {w w' : World} {B n : Nat} {A : Option Addr} {ops : List Op8R} (h : HasOps8 w B A n ops) (hb : Below B w w') : HasOps8 w' B A n ops :=
 ⟨h.1, h.2.1, fun hn => by
  obtain ⟨g, o, e, hg, hc⟩ := h.2.2 hn
  exact ⟨g, o, e, hg, fun i op hi k v hk => (hb.cell (by exact hg)).trans (hc i op hi k v hk)⟩⟩
section
variable {H : Type} {enc : TypeId × Value -> H} {W : World} {held : Bool} {fuel len cap : Nat} {a : Option Addr} {x : DataW H × List MemPlace}
end
end Go.Proofs.YthoebjekkfhhgaaGreat
