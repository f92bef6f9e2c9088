/-
  Own work.
-/
import Derived.Test.YthoebjekkfhhgaaGreatCp9
import Derived.Test.YthoebjekkfhhgaaGreatRows
import Derived.WalkKit
import Derived.ProofKit
import Derived.OpenShut
import Derived.ShutString
import Derived.ChangeOld
import Derived.Below
import Derived.Laws.BytesArg
import Derived.Lib.Hide
import Derived.Lib.Zigzag
import Derived.WalkSpells
import Derived.Deep.QuietTactic
import Derived.BigQuiet
import Derived.BigRegion
import Derived.Deep.RegionWith
import Derived.Laws.BitsAllLaws
import Derived.Great.BuildSlice
import Derived.Laws.CopyOwn
import Derived.WalkSmall
import Derived.Deep.RegionHeld3
import Derived.IntWalk
import Derived.ChangeKeysEq
import Derived.DeepKeys
import Derived.Maps.AppendAt
import Derived.OrdersHeld
import Derived.Deep.RegionHeld
import Derived.Deep.RegionLaw
import Derived.Deep.DeepCutAuto
import Derived.Lib.SmallJoins
import Derived.StillTailTactics
set_option linter.unusedVariables false
set_option linter.unusedSimpArgs false
namespace Go.Proofs.YthoebjekkfhhgaaGreat
open Go.RowKit
theorem infoU8 : (Tryz.prog.info? 5).map (fun i => (i.zero, i.size, i.bytes)) = some (some (.int .u8 0), 1, 1) := by kernel_rfl
def cellsB (l : List UInt8) : List Value := l.map fun b => Value.int .u8 (b.toNat : Int)
theorem cellsB_length (l : List UInt8) : (cellsB l).length = l.length := by simp [cellsB]
theorem cellsB_append (l m : List UInt8) : cellsB (l ++ m) = cellsB l ++ cellsB m := by simp [cellsB]
theorem cellsB_one (l : List UInt8) : ∀ u ∈ cellsB l, u.oneCell' = true := by
 intro u hu
 obtain ⟨b, _, rfl⟩ := List.mem_map.1 hu
 rfl
theorem cellsB_at {l : List UInt8} {j : Nat} {u : Value} (h : (cellsB l)[j]? = some u) : ∃ b, l[j]? = some b /\ u = .int .u8 (b.toNat : Int) := by
 simp only [cellsB, List.getElem?_map, Option.map_eq_some_iff] at h
 obtain ⟨b, hb, rfl⟩ := h
 exact ⟨b, hb, rfl⟩
def HasB (w : World) (B : Nat) (A : Option Addr) (n : Nat) (l : List UInt8) : Prop :=
 n = l.length /\ (0 < n -> ∃ g o, A = some ⟨g, o, none⟩ /\ g < B /\ ∀ i b, l[i]? = some b -> w.cell? ⟨g, o + i, none⟩ = some (.int .u8 (b.toNat : Int)))
def OwnB (w : World) (base : Nat) (v : Value) (l : List UInt8) : Prop := w.ownsRow base 5 1 v l.length (cellsB l)
section
variable {w w' : World} {B B' base n c : Nat} {A : Option Addr} {v : Value} {l m : List UInt8}
theorem HasB.nil (w : World) (B : Nat) (A : Option Addr) : HasB w B A 0 [] := ⟨rfl, fun h => absurd h (by simp)⟩
theorem HasB.len (h : HasB w B A n l) : n = l.length := h.1
theorem HasB.keep (h : HasB w B A n l) (hk : ∀ p : Addr, p.block < B -> w'.cell? p = w.cell? p) : HasB w' B A n l := ⟨h.1, fun hl => by
 obtain ⟨g, o, e, hg, hc⟩ := h.2 hl
 exact ⟨g, o, e, hg, fun i b hb => (hk _ hg).trans (hc i b hb)⟩⟩
theorem HasB.more (h : HasB w B A n l) (hB : B <= B') : HasB w B' A n l := ⟨h.1, fun hl => by
 obtain ⟨g, o, e, hg, hc⟩ := h.2 hl
 exact ⟨g, o, e, by omega, hc⟩⟩
theorem HasB.below (h : HasB w B A n l) (hb : Below B w w') : HasB w' B A n l := h.keep fun _ hp => hb.cell hp
theorem HasB.alloc (h : HasB w B A n l) (hB : B <= w.heap.size) (o : Obj) : HasB (w.alloc o) B A n l := h.keep fun p hp => World.cell?_alloc_lt w o p (by omega)
theorem HasB.on (h : HasB w w.heap.size A n l) (hb : Below w.heap.size w w') : HasB w' w'.heap.size A n l := (h.below hb).more hb.size
theorem HasB.window {g o k s : Nat} (h : HasB w B (some ⟨g, o, none⟩) n l) (hk : k + s <= n) {A' : Option Addr} {m : Nat} (hm : m = s) (hA : 0 < s -> A' = some ⟨g, o + k, none⟩) : HasB w B A' m ((l.drop k).take s) := by
 have hl := h.len
 subst hm
 refine ⟨by rw [List.length_take, List.length_drop]; omega, fun hs => ?_⟩
 obtain ⟨g', o', e, hg, hc⟩ := h.2 (by omega)
 simp only [Option.some.injEq, Addr.mk.injEq, and_true] at e
 obtain ⟨rfl, rfl⟩ := e
 refine ⟨g, o + k, hA hs, hg, fun i b hb => ?_⟩
 rw [Nat.add_assoc]
 refine hc (k + i) b ?_
 rw [List.getElem?_take] at hb
 split at hb
 · rw [List.getElem?_drop] at hb; exact hb
 · cases hb
theorem HasB.one (w : World) (x : Int) (b : UInt8) (t : TypeId) (hx : x = (b.toNat : Int)) : HasB (w.alloc (.cells #[.int .u8 x] t)) (w.heap.size + 1) (some ⟨w.heap.size, 0, none⟩) 1 [b] :=
 ⟨rfl, fun _ => ⟨w.heap.size, 0, rfl, by omega, fun i b' hb' => by
  have hi : i = 0 := by
   rcases Nat.eq_zero_or_pos i with h | h
   · exact h
   · rw [List.getElem?_eq_none (by simp; omega)] at hb'
     cases hb'
  subst hi
  simp only [List.getElem?_cons_zero, Option.some.injEq] at hb'
  subst hb' hx
  rw [cell_of_row _ _ _ _ t (0, 0) (heap_alloc_new w _)]
  rfl⟩⟩
theorem HasB.row (w : World) (l : List UInt8) (t : TypeId) : HasB (w.alloc (.cells (cellsB l).toArray t)) (w.alloc (.cells (cellsB l).toArray t)).heap.size (some ⟨w.heap.size, 0, none⟩) l.length l :=
 ⟨rfl, fun _ => ⟨w.heap.size, 0, rfl, by simp, fun i b hb => by
  rw [cell_of_row _ _ _ _ t (0, 0) (heap_alloc_new w _)]
  simp [cellsB, hb]⟩⟩
theorem OwnB.nil (w : World) (base : Nat) : OwnB w base (.slice none 0 0) [] := ⟨by simp [cellsB], .inl ⟨rfl, rfl⟩⟩
theorem OwnB.empty (w : World) : OwnB (w.alloc (.cells #[] 5)) w.heap.size (.slice (some ⟨w.heap.size, 0, none⟩) 0 0) [] :=
 ⟨by simp [cellsB], .inr ⟨w.heap.size, 0, #[], rfl, Nat.le_refl _, heap_alloc_new w _, Nat.le_refl _, by simp, by simp, by simp [cellsB]⟩⟩
theorem OwnB.form (h : OwnB w base v l) : (v = .slice none 0 0 /\ l = []) \/ ∃ g c cur, v = .slice (some ⟨g, 0, none⟩) l.length c /\ base <= g /\ g < w.heap.size /\ w.heap[g]? = some (.cells cur 5 (0, 0)) /\ l.length <= c /\ c <= maxLen /\ cur.size = c /\ cur.toList.take l.length = cellsB l := by
 rcases h.2 with ⟨e, hn⟩ | ⟨g, c, cur, e, hb, hg, hn, hc, hs, ht⟩
 · exact .inl ⟨e, List.eq_nil_of_length_eq_zero hn⟩
 · exact .inr ⟨g, c, cur, e, hb, (Array.getElem?_eq_some_iff.1 hg).1, hg, hn, hc, by simpa using hs, by simpa using ht⟩
theorem OwnB.slice (h : OwnB w base v l) : ∃ A n c, v = .slice A n c /\ n <= c /\ c <= maxLen /\ HasB w w.heap.size A n l := by
 rcases h.form with ⟨e, rfl⟩ | ⟨g, c, cur, e, hb, hlt, hg, hn, hc, hs, ht⟩
 · exact ⟨none, 0, 0, e, by simp, by simp, HasB.nil _ _ _⟩
 · refine ⟨_, _, c, e, hn, hc, rfl, fun _ => ⟨g, 0, rfl, hlt, fun i b hib => ?_⟩⟩
   have := World.ownsRow.cells (w := w) h (g := g) (by rw [e]; rfl) i (.int .u8 (b.toNat : Int)) (by simp [cellsB, hib])
   simpa [Addr.add_lit] using this
theorem OwnB.has (h : OwnB w base (.slice A n c) l) : HasB w w.heap.size A n l := by
 obtain ⟨A', n', c', e, _, _, h3⟩ := h.slice
 simp only [Value.slice.injEq] at e
 obtain ⟨rfl, rfl, rfl⟩ := e
 exact h3
theorem OwnB.len (h : OwnB w base (.slice A n c) l) : n = l.length := h.has.1
theorem OwnB.caps (h : OwnB w base (.slice A n c) l) : n <= c /\ c <= maxLen := by
 obtain ⟨A', n', c', e, h1, h2, _⟩ := h.slice
 simp only [Value.slice.injEq] at e
 obtain ⟨rfl, rfl, rfl⟩ := e
 exact ⟨h1, h2⟩
theorem OwnB.set_ {g k : Nat} {x : Int} {b : UInt8} (h : OwnB w base (.slice (some ⟨g, 0, none⟩) n c) l) (hx : x = (b.toNat : Int)) :
 OwnB (w.setCell ⟨g, k, none⟩ (.int .u8 x)) base (.slice (some ⟨g, 0, none⟩) n c) (l.set k b) := by
 have hl := h.len
 subst hl hx
 have := (World.ownsRow.stored (w := w) h k (.int .u8 (b.toNat : Int))).1
 unfold OwnB
 rw [List.length_set]
 have e : cellsB (l.set k b) = (cellsB l).set k (.int .u8 (b.toNat : Int)) := by simp [cellsB, List.map_set]
 rw [e]
 exact this
theorem OwnB.frozen {g : Nat} (h : OwnB w base (.slice (some ⟨g, 0, none⟩) n c) l) (k : Nat) : w.frozen? ⟨g, k, none⟩ = false := by
 have hl := h.len
 subst hl
 exact World.ownsRow.frozenAt (w := w) h k
theorem OwnB.head (h : OwnB w base (.slice A n c) l) (hn : 0 < n) : ∃ g, A = some ⟨g, 0, none⟩ /\ base <= g /\ g < w.heap.size /\ ∀ i b, l[i]? = some b -> w.cell? ⟨g, i, none⟩ = some (.int .u8 (b.toNat : Int)) := by
 have hl := h.len
 obtain ⟨g', o', e1, _, hcell⟩ := h.has.2 hn
 rcases h.form with ⟨e0, rfl⟩ | ⟨g, c2, cur, e0, hbg, hlt, _⟩
 · simp at hl; omega
 · simp only [Value.slice.injEq] at e0
   obtain ⟨rfl, -, -⟩ := e0
   simp only [Option.some.injEq, Addr.mk.injEq, and_true] at e1
   obtain ⟨rfl, rfl⟩ := e1
   exact ⟨g, rfl, hbg, hlt, fun i b hb => by simpa using hcell i b hb⟩
theorem OwnB.kept {row : Option Nat} (h : OwnB w base v l) (hg : w.grownBy w' row) (hne : v.ownBlock = none \/ v.ownBlock ≠ row) : OwnB w' base v l := World.ownsRow.kept h hg hne
theorem OwnB.alloc (h : OwnB w base v l) (o : Obj) : OwnB (w.alloc o) base v l := World.ownsRow.alloc h o
theorem OwnB.lt (h : OwnB w base v l) : ∀ k, v.ownBlock = some k -> base <= k /\ k < w.heap.size := World.ownsRow.lt h
theorem OwnB.below {w' : World} (h : OwnB w base v l) (hb : Below w.heap.size w w') : OwnB w' base v l := by
 refine ⟨h.1, ?_⟩
 rcases h.2 with h2 | ⟨g, c, cur, e, h3, hg, r⟩
 · exact .inl h2
 · exact .inr ⟨g, c, cur, e, h3, by rw [hb.block g (Array.getElem?_eq_some_iff.1 hg).1]; exact hg, r⟩
theorem OwnB.less {base' : Nat} (h : OwnB w base v l) (hb : base' <= base) : OwnB w base' v l := by
 refine ⟨h.1, ?_⟩
 rcases h.2 with h2 | ⟨g, c, cur, e, h3, r⟩
 · exact .inl h2
 · exact .inr ⟨g, c, cur, e, by omega, r⟩
theorem below_of_grown (h : OwnB w base v l) (hg : w.grownBy w' v.ownBlock) (hb : base <= w.heap.size) : Below base w w' :=
 (Below.refl base w).grown hg hb fun k hk => (h.lt k hk).1
end
section
variable {P : Program} {w : World}
theorem run_app (ty : TypeId) (ht : P.underlying 34 = some (.slice 5)) (hi0 : (P.info? 5).map (fun i => (i.zero, i.size, i.bytes)) = some (some (.int .u8 0), 1, 1))
 (base : Nat) (v : Value) (l m : List UInt8) (hown : OwnB w base v l) (B : Nat) (A : Option Addr) (k c : Nat) (hm' : HasB w B A k m) (hlen : l.length + m.length <= 140737488355328) (hbase : base <= w.heap.size) :
 ∃ A' n' c' w', (Builtin.append_ #[34, 34] ty #[v, .slice A k c]).run P w = .ok (.slice A' n' c') w' /\ OwnB w' base (.slice A' n' c') (l ++ m) /\ w.grownBy w' v.ownBlock := by
 obtain ⟨rfl, hm⟩ := hm'
 obtain ⟨i, hi, hz, hs, hby⟩ := info_parts hi0
 have key : ∃ v' w', (Builtin.append_ #[34, 34] ty #[v, .slice A m.length c]).run P w = .ok v' w' /\ OwnB w' base v' (l ++ m) /\ w.grownBy w' v.ownBlock := by
  by_cases h0 : m.length = 0
  · have hm0 : m = [] := List.eq_nil_of_length_eq_zero h0
    subst hm0
    rcases hown.form with ⟨rfl, rfl⟩ | ⟨g, cc, cur, rfl, hbg, hlt, hg, hn, hc, hcs, ht'⟩
    · refine ⟨.slice none 0 0, w, ?_, OwnB.nil w base, World.grownBy.refl _ _⟩
      rcases A with _ | ad
      · simp [Builtin.append_, run_underlying ht, sizeOf, typeInfo, hi, Builtin.lenOf, Builtin.firstCells]
      · simp [Builtin.append_, run_underlying ht, sizeOf, typeInfo, hi, Builtin.lenOf, Builtin.firstCells, loadCells, loadCellsFrom]
    · rcases A with _ | ad
      · refine ⟨_, w, ?_, by simpa using hown, World.grownBy.refl _ _⟩
        simp [Builtin.append_, run_underlying ht, sizeOf, typeInfo, hi, Builtin.lenOf, Builtin.firstCells, hn, storeCells]
      · obtain ⟨v', w', hr, h2, h3, _⟩ := run_append_own (P := P) w base 34 ty 5 i (.int .u8 0) 1 1 ht hi hz hs hby rfl (by decide) _ l.length (cellsB l) hown ad 0 c [] rfl (by simp) (by simp)
         (by simp only [maxLen]; omega) (by omega) hbase
        exact ⟨v', w', hr, by simpa [OwnB] using h2, h3⟩
  · obtain ⟨g, o, rfl, hgB, hcell⟩ := hm (by omega)
    obtain ⟨v', w', hr, h2, h3, _⟩ := run_append_own (P := P) w base 34 ty 5 i (.int .u8 0) 1 1 ht hi hz hs hby rfl (by decide) v l.length (cellsB l) hown ⟨g, o, none⟩ m.length c (cellsB m)
     (by simp [cellsB_length]) (fun j u hu => by
       obtain ⟨b, hb, rfl⟩ := cellsB_at hu
       rw [Addr.add_lit]
       exact hcell j b hb) (cellsB_one m) (by simp only [maxLen]; omega) (by omega) hbase
    refine ⟨v', w', hr, ?_, h3⟩
    unfold OwnB
    rw [cellsB_append, List.length_append]
    exact h2
 obtain ⟨v', w', hr, h2, h3⟩ := key
 obtain ⟨A', n', c', rfl, _⟩ := h2.slice
 exact ⟨A', n', c', w', hr, h2, h3⟩
theorem wp_app {ops : Array Oper} {rest : List Oper} {o : Oper} {a : Act} {Q : Exit -> Act -> World -> Prop} (hgd : o.guard = none) (s x : Operand)
 (ho : o.op = .call { callee := .builtin .append, args := #[s, x], argTypes := #[34, 34] })
 (ht : P.underlying 34 = some (.slice 5)) (hi0 : (P.info? 5).map (fun i => (i.zero, i.size, i.bytes)) = some (some (.int .u8 0), 1, 1))
 (base : Nat) (v : Value) (l m : List UInt8) (hs : a.eval s = v) (hown : OwnB w base v l) (B : Nat) (A : Option Addr) (n c : Nat) (hx : a.eval x = .slice A n c) (hm : HasB w B A n m)
 (hlen : l.length + m.length <= 140737488355328) (hbase : base <= w.heap.size)
 (h : ∀ A' n' c' w', OwnB w' base (.slice A' n' c') (l ++ m) -> w.grownBy w' v.ownBlock -> Below base w w' -> wpList P ops Q rest (a.put o.dst (.slice A' n' c')) w') : wpList P ops Q (o :: rest) a w := by
 refine wpList_plain hgd fun K hK => ?_
 obtain ⟨A', n', c', w', hrun, h2, h3⟩ := run_app (P := P) (w := w) o.type ht hi0 base v l m hown B A n c hm hlen hbase
 unfold Oper.wp execOp
 simp only [ho, resolve, invoke, builtin, Sem.run_bind, Sem.run_pure, Result.andThen_ok, List.map_toArray, List.map_cons, List.map_nil, hs, hx, hrun]
 exact hK _ _ (h A' n' c' w' h2 h3 (below_of_grown hown h3 hbase))
theorem run_conv (ht : P.underlying 34 = some (.slice 5)) (he : P.underlying 5 = some (.int .u8)) (hd : P.underlying 9 = some .string) (B : Nat) (A : Option Addr) (n c : Nat) (l : List UInt8) (h' : HasB w B A n l) :
 (convert 34 9 (.slice A n c)).run P w = .ok (.string ⟨l.toArray⟩) w := by
 obtain ⟨rfl, h⟩ := h'
 rcases A with _ | ad
 · have h0 : l.length = 0 := by
    rcases Nat.eq_zero_or_pos l.length with h0 | h0
    · exact h0
    · obtain ⟨g, o, e, _⟩ := h h0
      cases e
   have hl : l = [] := List.eq_nil_of_length_eq_zero h0
   subst hl
   exact run_convert_bytes_nil (P := P) w _ _ ht he _ _ _ hd
 · by_cases h0 : l.length = 0
   · have hl : l = [] := List.eq_nil_of_length_eq_zero h0
     subst hl
     rw [run_convert_bytes_string w _ _ _ _ _ _ ht he hd]
     exact run_bytesToString (P := P) w ad 0 c [] (by simp [loadCells, loadCellsFrom])
   · obtain ⟨g, o, e, _, hc⟩ := h (by omega)
     injection e with e
     subst e
     have hr := run_convert_bytes_arg (P := P) w _ _ ht he g o l.length c (l.map fun b => (b.toNat : Int)) (by simp) (fun i hi => by
      rw [hc i l[i] (List.getElem?_eq_getElem hi)]
      simp [List.getD, hi]) _ hd
     rw [hr]
     simp [strOfNums, Function.comp_def]
end
theorem u8_of (n : Nat) : ((UInt8.ofNat n).toNat : Int) = (n : Int) % 256 := by simp
def RetB (w : World) (l : List UInt8) (e : Ending) (w' : World) : Prop :=
 ∃ A n c, e = .returned (.slice A n c) /\ OwnB w' w.heap.size (.slice A n c) l /\ Below w.heap.size w w'
def RetBE (w : World) (l : List UInt8) (k : Int) (e : Ending) (w' : World) : Prop :=
 ∃ A n c, e = .returned (.tuple #[.slice A n c, .int .i64 k]) /\ OwnB w' w.heap.size (.slice A n c) l /\ Below w.heap.size w w'
def be : Nat -> Nat -> List UInt8
 | 0, _ => []
 | n + 1, v => be n (v / 256) ++ [UInt8.ofNat v]
theorem be_length : ∀ n v, (be n v).length = n
 | 0, _ => rfl
 | n + 1, v => by simp [be, be_length n]
theorem mayWidth_any (n : Int) (w : World) (hn : -9223372036854775808 <= n /\ n <= 9223372036854775807) :
 Calls Tryz.prog 128 #[.int .i64 n] w fun e w' => e = .returned (.bool (decide (1 <= n /\ n <= 8))) /\ w = w' := by
 obtain ⟨h1, h2⟩ := hn
 go_enter Tryz.func128, Tryz.ntmps128
 go_wp2
 all_goals go_ret
 all_goals simp [*]
 all_goals omega
theorem mayWidth_yes (n : Int) (w : World) (h1 : 1 <= n) (h2 : n <= 8) : Calls Tryz.prog 128 #[.int .i64 n] w fun e w' => e = .returned (.bool true) /\ w = w' :=
 (mayWidth_any n w (by omega)).mono fun e w' ⟨he, hw⟩ => ⟨by rw [he, decide_eq_true ⟨h1, h2⟩], hw⟩
theorem cwr_any (A : Option Addr) (l : List UInt8) (n c r : Nat) (w : World) (h : HasB w w.heap.size A n l) (hn : n + r <= 70368744177664) :
 Calls Tryz.prog 129 #[.slice A n c, .int .i64 (r : Int)] w (RetB w l) := by
 have hl := h.len
 have HL := lH hl
 clear hl
 obtain ⟨i0, hi0, hz0, hz1, hz2⟩ := info_parts infoU8
 go_enter Tryz.func129, Tryz.ntmps129
 go_wp2_with (first
  | (at_make; refine wpList_make_own _ rfl _ _ _ rfl w.heap.size 5 i0 _ 1 Tryz.underlying34 hi0 hz0 hz1 _ _ _ (n + r) rfl rfl (by omega) (by rw [hz2]; omega) (by simp only [maxLen]; omega) (Nat.le_refl _) ?_; intro w1 hown1 hg1)
  | (at_builtin; refine wp_app rfl _ _ rfl Tryz.underlying34 infoU8 w.heap.size _ [] l rfl hown1 w.heap.size A n c rfl (h.below ((Below.refl _ _).grown hg1 (Nat.le_refl _) (by simp))) (by rw [<- HL.out]; simp; omega) hg1.size ?_; intro A2 n2 c2 w2 hown2 hg2 hb2))
 go_ret
 exact ⟨A2, n2, c2, rfl, by simpa using hown2, ((Below.refl _ _).grown hg1 (Nat.le_refl _) (by simp)).trans hb2⟩
theorem pow_256 (k : Nat) : 256 ^ k = 2 ^ (8 * k) := by rw [Nat.pow_mul]
theorem shr_256 (v k : Nat) : (v : Int) / 2 ^ (8 * k) = ((v / 256 ^ k : Nat) : Int) := by rw [pow_256]; simp
theorem be_step (v k j : Nat) (h : j < k) : be (j + 1) (v / 256 ^ (k - (j + 1))) = be j (v / 256 ^ (k - j)) ++ [UInt8.ofNat (v / 256 ^ (k - 1 - j))] := by
 rw [be, show k - j = (k - (j + 1)) + 1 by omega, Nat.pow_succ, Nat.div_div_eq_div_mul, show k - (j + 1) = k - 1 - j by omega]
theorem put_ok (A : Option Addr) (l : List UInt8) (n c v k : Nat) (w : World) (h : HasB w w.heap.size A n l) (hn : n <= 1073741824) (hv : v < 18446744073709551616) (hk1 : 1 <= k) (hk8 : k <= 8) (hfit : v < 256 ^ k) :
 Calls Tryz.prog 95 #[.slice A n c, .int .u64 (v : Int), .int .i64 (k : Int)] w (RetBE w (l ++ be k v) 0) := by
 have hl := h.len
 have HL := lH hl
 have HF := lH hfit
 have t : ((v : Int) / 2 ^ (8 * k) != 0) = false := by
  rw [shr_256, Nat.div_eq_of_lt hfit]; rfl
 clear hl hfit
 go_enter Tryz.func95, Tryz.ntmps95
 go_wp2_with (first
  | (go_at_call 128; refine (mayWidth_yes _ _ (by omega) (by omega)).mono ?_; rintro e w' ⟨rfl, rfl⟩)
  | (go_at_call 129; refine (cwr_any A l n c k _ h (by omega)).mono ?_; rintro e w1 ⟨A1, n1, c1, rfl, hown1, hb1⟩))
 have T := lH t
 clear t
 go_loopw [8, 9] (fun s x wr => ∃ (A' : Option Addr) (n' c' j : Nat), s = .slice A' n' c' /\ x = .int .i64 (8 * ((k : Int) - 1) - 8 * (j : Int)) /\ j <= k /\ OwnB wr w.heap.size (.slice A' n' c') (l ++ be j (v / 256 ^ (k - j))) /\ Below w.heap.size w wr) (fun _ x _ => (intOf x + 8).toNat)
 case atStart => exact ⟨A1, n1, c1, 0, rfl, by go_num, by omega, by simpa [be] using hown1, hb1⟩
 case round =>
  obtain ⟨A', n', c', j, rfl, rfl, hj, hown, hbel⟩ := hrel
  have hsz := hbel.size
  by_cases hlt : j < k
  · have es : (v : Int) / 2 ^ (8 * (k - 1 - j)) = ((v / 256 ^ (k - 1 - j) : Nat) : Int) := shr_256 _ _
    have ES := lH es
    clear es
    go_wp2_with (at_builtin; go_loud (refine wp_app rfl _ _ rfl Tryz.underlying34 infoU8 w.heap.size _ _ [UInt8.ofNat (v / 256 ^ (k - 1 - j))] rfl (hown.alloc _) _ _ _ _ rfl (HasB.one wr _ _ _ ?hx1) (by have := HL.out; simp [be_length]; omega) (by simp; omega) ?_); rotate_right; intro A2 n2 c2 w2 hown2 hg2 hb2)
    case hx1 => rw [show 8 * (k - 1) - 8 * j = 8 * (k - 1 - j) by omega, shr_256, u8_of]
    go_roundw
    case rel => exact ⟨A2, n2, c2, j + 1, rfl, by go_num, by omega, by rw [be_step v k j hlt, <- List.append_assoc]; exact hown2, (hbel.alloc hsz _).trans hb2⟩
    case measure => simp [intOf]; omega
  · go_wp2_with fail
    go_ret2
    obtain rfl : j = k := by omega
    exact ⟨A', n', c', rfl, by simpa using hown, hbel⟩
def num (l : List UInt8) : Nat := l.foldl (fun a b => a * 256 + b.toNat) 0
theorem num_snoc (l : List UInt8) (b : UInt8) : num (l ++ [b]) = num l * 256 + b.toNat := by simp [num]
theorem numFold_lt : ∀ (l : List UInt8) (a : Nat), l.foldl (fun a b => a * 256 + b.toNat) a < (a + 1) * 256 ^ l.length
 | [], a => by simp
 | b :: l, a => by
   rw [List.foldl_cons, List.length_cons, Nat.pow_succ]
   have h := numFold_lt l (a * 256 + b.toNat)
   have hb := b.toNat_lt
   have : (a * 256 + b.toNat + 1) * 256 ^ l.length <= ((a + 1) * 256) * 256 ^ l.length := Nat.mul_le_mul_right _ (by omega)
   rw [Nat.mul_assoc, Nat.mul_comm 256] at this
   omega
theorem num_lt (l : List UInt8) : num l < 256 ^ l.length := by simpa [num] using numFold_lt l 0
theorem take_snoc' (l : List UInt8) (j : Nat) (b : UInt8) (h : l[j]? = some b) : l.take (j + 1) = l.take j ++ [b] := by
 rw [List.take_add_one, h]; rfl
theorem at_some (l : List UInt8) (j : Nat) (h : j < l.length) : ∃ b, l[j]? = some b := ⟨l[j], List.getElem?_eq_getElem h⟩
theorem num_take_lt (l : List UInt8) (j : Nat) (h : j <= 7) : num (l.take j) < 72057594037927936 := by
 have h1 := num_lt (l.take j)
 have h2 : (l.take j).length <= 7 := by rw [List.length_take]; omega
 have h3 : 256 ^ (l.take j).length <= 256 ^ 7 := Nat.pow_le_pow_right (by omega) h2
 omega
theorem cellsB_size (b : List UInt8) : (cellsB b).toArray.size = b.length := by simp [cellsB]
def Bw (w : World) (g : Nat) (t : TypeId) (l : List UInt8) : Prop := w.heap[g]? = some (.cells (cellsB l).toArray t (0, 0))
theorem Bw.cell {w : World} {g i : Nat} {x : UInt8} {t : TypeId} {l : List UInt8} (h : Bw w g t l) (hx : l[i]? = some x) : w.cell? ⟨g, i, none⟩ = some (.int .u8 (x.toNat : Int)) := by
 rw [cell_of_row w g i _ t (0, 0) h]
 simp [cellsB, hx]
theorem Bw.frozen {w : World} {g : Nat} {t : TypeId} {l : List UInt8} (h : Bw w g t l) (i : Nat) : w.frozen? ⟨g, i, none⟩ = false := frozen_of_row w g i _ t h
theorem Bw.set_ {w : World} {g i : Nat} {x : UInt8} {t : TypeId} {l : List UInt8} {y : Int} (h : Bw w g t l) (hy : y = (x.toNat : Int)) : Bw (w.setCell ⟨g, i, none⟩ (.int .u8 y)) g t (l.set i x) := by
 subst hy
 have := heap_setCell_same w g i _ t (.int .u8 (x.toNat : Int)) h
 unfold Bw
 rw [this]
 congr 2
 simp [cellsB, List.map_set]
theorem Bw.new (w : World) (l : List UInt8) (t : TypeId) : Bw (w.alloc (.cells (cellsB l).toArray t)) w.heap.size t l := heap_alloc_new w _
theorem Bw.lt {w : World} {g : Nat} {t : TypeId} {l : List UInt8} (h : Bw w g t l) : g < w.heap.size := (Array.getElem?_eq_some_iff.1 h).1
theorem Bw.alloc {w : World} {g : Nat} {t : TypeId} {l : List UInt8} (h : Bw w g t l) (o : Obj) : Bw (w.alloc o) g t l := (Below.heap_alloc w o g h.lt).trans h
theorem Bw.far {w : World} {g : Nat} {t : TypeId} {l : List UInt8} (h : Bw w g t l) {p : Addr} (hp : g ≠ p.block) (u : Value) : Bw (w.setCell p u) g t l := (heap_setCell_other w p g u hp).trans h
theorem Bw.drewN {w : World} {g : Nat} {t : TypeId} {l : List UInt8} (h : Bw w g t l) (n : Nat) : Bw (w.drewN n) g t l := h
theorem Bw.below {w w' : World} {g B : Nat} {t : TypeId} {l : List UInt8} (h : Bw w g t l) (hb : Below B w w') (hg : g < B) : Bw w' g t l := (hb.block g hg).trans h
theorem cellsB_ones (l : List UInt8) : ((cellsB l).toArray).all (·.oneCell') = true := by
 rw [Array.all_eq_true]
 intro i hi
 simp [cellsB, Value.oneCell']
theorem Bw.row {w : World} {g : Nat} {t : TypeId} {l m : List UInt8} (h : Bw w g t l) : Bw (w.setRow g (cellsB m).toArray) g t m := setRow_heap w g _ _ t _ h
theorem Bw.rowFar {w : World} {g g' : Nat} {t : TypeId} {l : List UInt8} (h : Bw w g t l) (hne : g ≠ g') (cs : Array Value) : Bw (w.setRow g' cs) g t l := (setRow_other w g' g cs hne).trans h
def zer (n : Nat) : List UInt8 := List.replicate n 0
theorem zer_len (n : Nat) : (zer n).length = n := by simp [zer]
theorem below_row {B g : Nat} {a w w' : World} (h : Below B a w) (hg : w.grownBy w' (some g)) (hB : B <= g) (hs : B <= w.heap.size) : Below B a w' :=
 h.trans ⟨hg.os, hg.tape, hg.output, hg.size, fun k hk => hg.block k (by omega) (by intro e; injection e; omega)⟩
theorem mapM_all {α β : Type} (f : α -> Option β) (g : α -> β) : ∀ l : List α, (∀ a ∈ l, f a = some (g a)) -> l.mapM f = some (l.map g)
 | [], _ => by simp
 | a :: l, h => by
   rw [List.mapM_cons, h a (by simp), mapM_all f g l (fun b hb => h b (by simp [hb]))]
   rfl
theorem flat_one {α β : Type} (f : α -> β) : ∀ l : List α, (l.map fun x => [f x]).flatten = l.map f
 | [] => rfl
 | a :: l => by simp [flat_one f l]
theorem range_getD (zs : List Int) : (List.range zs.length).map (fun i => zs.getD i 0) = zs := by
 apply List.ext_getElem
 · simp
 · intro i h1 h2
   simp [List.getD, h2]
theorem keyLits_ints {P : Program} {t e : TypeId} {n : Nat} {k : IntKind} (hu : P.underlying t = some (.array n e)) (he : P.underlying e = some (.int k)) (hC : P.cellsOf t = n) (hce : P.cellsOf e = 1)
 (zs : List Int) (hz : zs.length = n) (hwf : ∀ z ∈ zs, (Lit.int k z).wf = true) (d : Nat) : P.keyLits (d + 2) t (zs.map (Value.int k)) = some (zs.map (Lit.int k)) := by
 have key : ∀ i ∈ List.range n, P.keyLits (d + 1) e (((zs.map (Value.int k)).drop (i * P.cellsOf e)).take (P.cellsOf e)) = some [Lit.int k (zs.getD i 0)] := by
  intro i hi
  have hi' : i < zs.length := by rw [hz]; simpa using hi
  have e1 : ((zs.map (Value.int k)).drop (i * P.cellsOf e)).take (P.cellsOf e) = [Value.int k zs[i]] := by
   rw [hce, Nat.mul_one, List.drop_eq_getElem_cons (by simpa using hi')]
   simp
  rw [e1]
  unfold Program.keyLits
  simp only [he]
  have hw := hwf _ (List.getElem_mem hi')
  simp [List.getD, hi', hw]
 unfold Program.keyLits
 simp only [hu]
 rw [if_pos (by rw [List.length_map, hz, hC])]
 rw [mapM_all _ _ _ key]
 simp only [Option.map_some]
 rw [flat_one (fun i => Lit.int k (zs.getD i 0))]
 have hr := congrArg (List.map (Lit.int k)) (range_getD zs)
 rw [List.map_map, hz] at hr
 exact congrArg some hr
theorem eql_ints {P : Program} {t e : TypeId} {n : Nat} {k : IntKind} (hu : P.underlying t = some (.array n e)) (he : P.underlying e = some (.int k)) (hC : P.cellsOf t = n) (hce : P.cellsOf e = 1) (hk : P.keyTypeAt 2 t = true) (hsz : ∀ cs : Array Value, cs.size = n -> (Value.agg cs).formed P t = true)
 (xs ys : List Int) (hx : xs.length = n) (hy : ys.length = n) (wx : ∀ z ∈ xs, (Lit.int k z).wf = true) (wy : ∀ z ∈ ys, (Lit.int k z).wf = true) (w : World) :
 (binOp .eql t (.agg (xs.map (Value.int k)).toArray) (.agg (ys.map (Value.int k)).toArray)).run P w = .ok (.bool (decide (xs = ys))) w := by
 obtain ⟨r, hr, hiff⟩ := run_equalIn_deep (P := P) 9998 2 t hk w 2 2 (.agg (xs.map (Value.int k)).toArray) (.agg (ys.map (Value.int k)).toArray) _ _ (hsz _ (by simp [hx])) (hsz _ (by simp [hy]))
  (keyLits_ints hu he hC hce xs hx wx 0) (keyLits_ints hu he hC hce ys hy wy 0)
 have hl : (xs.map (Lit.int k) = ys.map (Lit.int k)) ↔ xs = ys := by
  constructor
  · intro h
    have := congrArg (List.map fun l => match l with | Lit.int _ z => z | _ => 0) h
    simpa [List.map_map, Function.comp_def] using this
  · rintro rfl; rfl
 have hd : r = decide (xs = ys) := by
  rw [Bool.eq_iff_iff, hiff, hl]; simp
 have he2 : (Op.equal t (.agg (xs.map (Value.int k)).toArray) (.agg (ys.map (Value.int k)).toArray)).run P w = .ok r w := hr
 simp only [binOp, Sem.run_bind, he2, Result.andThen_ok, Sem.run_pure, hd]
theorem bytes_ints (b : List UInt8) : cellsB b = (b.map fun x => (x.toNat : Int)).map (Value.int .u8) := by simp [cellsB]
theorem wf_u8 (b : List UInt8) : ∀ z ∈ b.map (fun x => (x.toNat : Int)), (Lit.int .u8 z).wf = true := by
 intro z hz
 obtain ⟨x, hx, rfl⟩ := List.mem_map.1 hz
 have := x.toNat_lt
 have hm : IntKind.u8.min = 0 := rfl
 have hM : IntKind.u8.max = 255 := rfl
 simp [Lit.wf, hm, hM]
 omega
theorem wpList_load_rowG {P : Program} {ops : Array Oper} {rest : List Oper} {o : Oper} {a : Act} {w : World} {Q : Exit -> Act -> World -> Prop} (hw : Region.wanted o (yielded ops a.tmps) = true) (ty : TypeId) (x : Operand) (ho : o.op = .load ty x)
 (g : Nat) (hx : a.eval x = .pointer (some ⟨g, 0, none⟩)) (v : Value) (hl : (loadVar ty ⟨g, 0, none⟩).run P w = .ok v w)
 (h : wpList P ops Q rest (a.put o.dst v) w) : wpList P ops Q (o :: rest) a w := by
 refine BigFrame.wpList_want hw fun K hK => ?_
 unfold Oper.wp execOp
 simp only [ho, hx, Instr.loadAt, Instr.sureAddr, Sem.run_bind, Sem.run_pure, Result.andThen_ok, hl]
 exact hK _ _ h
theorem wpList_buildG {P : Program} {ops : Array Oper} {rest : List Oper} {o : Oper} {a : Act} {w : World} {Q : Exit -> Act -> World -> Prop} (hw : Region.wanted o (yielded ops a.tmps) = true) (t : TypeId) (ho : o.op = .build t #[])
 (cells : Array Value) (hf : P.built t [] = some cells) (h : wpList P ops Q rest (a.put o.dst (.agg cells)) w) : wpList P ops Q (o :: rest) a w := by
 refine BigFrame.wpList_want hw fun K hK => ?_
 unfold Oper.wp execOp
 simp only [ho, Sem.run_bind, List.map_toArray, List.map_nil, run_build w t _ _ hf, Result.andThen_ok]
 exact hK _ _ h
theorem wpList_eqlG {P : Program} {ops : Array Oper} {rest : List Oper} {o : Oper} {a : Act} {w : World} {Q : Exit -> Act -> World -> Prop} (hw : Region.wanted o (yielded ops a.tmps) = true) (t u : TypeId) (x y : Operand) (ho : o.op = .binOp .eql t x y u)
 (X Y : Value) (r : Bool) (hx : a.eval x = X) (hy : a.eval y = Y) (hg : (eqGuard .eql t x y X Y).run P w = .ok () w) (hb : (binOp .eql t X Y).run P w = .ok (.bool r) w)
 (h : wpList P ops Q rest (a.put o.dst (.bool r)) w) : wpList P ops Q (o :: rest) a w := by
 refine BigFrame.wpList_want hw fun K hK => ?_
 unfold Oper.wp execOp
 simp only [ho, hx, hy, Sem.run_bind, Sem.run_pure, Result.andThen_ok, hg, hb]
 exact hK _ _ h
theorem bytes_inj : ∀ {l m : List UInt8}, l.map (fun x => (x.toNat : Int)) = m.map (fun x => (x.toNat : Int)) -> l = m
 | [], [], _ => rfl
 | [], _ :: _, h => by simp at h
 | _ :: _, [], h => by simp at h
 | a :: l, b :: m, h => by
   simp only [List.map_cons, List.cons.injEq] at h
   have h1 : a.toNat = b.toNat := by omega
   rw [bytes_inj h.2, UInt8.toNat_inj.1 h1]
theorem HasB.lit (w : World) (l : List UInt8) (t : TypeId) (fr : Nat × Nat) : HasB (w.alloc (.cells (cellsB l).toArray t fr)) (w.heap.size + 1) (some ⟨w.heap.size, 0, none⟩) l.length l :=
 ⟨rfl, fun _ => ⟨w.heap.size, 0, rfl, by omega, fun i b hb => by
  rw [cell_of_row _ _ _ _ t fr (heap_alloc_new w _)]
  simp [cellsB, hb]⟩⟩
def RetTrue (w : World) (e : Ending) (w' : World) : Prop := e = .returned (.bool true) /\ Below w.heap.size w w'
theorem Bw.has {w : World} {g n : Nat} {t : TypeId} {l : List UInt8} (h : Bw w g t l) (hn : n = l.length) : HasB w w.heap.size (some ⟨g, 0, none⟩) n l :=
 ⟨hn, fun _ => ⟨g, 0, rfl, h.lt, fun i b hb => by rw [Nat.zero_add]; exact h.cell hb⟩⟩
theorem bw_second (w : World) (a b : List UInt8) (t u : TypeId) : Bw ((w.alloc (.cells (cellsB a).toArray t)).alloc (.cells (cellsB b).toArray u)) (w.heap.size + 1) u b := by
 have := Bw.new (w.alloc (.cells (cellsB a).toArray t)) b u
 simpa using this
section
variable {P : Program} {ops : Array Oper} {o : Oper} {a : Act} {S : World -> Prop}
theorem yieldsIf_loadG (hw : Region.wanted o (yielded ops a.tmps) = true) (ty : TypeId) (x : Operand) (ho : o.op = .load ty x) (ad : Addr) (hx : a.eval x = .pointer (some ad)) (v : Value)
 (hl : ∀ w, S w -> (loadVar ty ad).run P w = .ok v w) : YieldsIf P ops S o v a := by
 refine Or.inl ⟨hw, fun w hS => ?_⟩
 unfold execOp
 simp only [ho, hx, Instr.loadAt, Instr.sureAddr, Sem.run_bind, Sem.run_pure, Result.andThen_ok, hl w hS]
end
section
variable {P : Program} {ops : Array Oper} {o : Oper} {a : Act} {S : World -> Prop}
end
theorem load_slice {W : World} {ad : Addr} {A : Option Addr} {n c : Nat} (h : W.cell? ad = some (.slice A n c)) : (loadVar 34 ad).run Tryz.prog W = .ok (.slice A n c) W := by
 simp [loadVar, isAgg, run_underlying Tryz.underlying34, go_sem, h]
section
variable {P : Program}
theorem run_loadVar_part (w : World) (g o : Nat) (t ty : TypeId) (cs sub : List Value) (fr : Nat × Nat) (d : TypeDesc) (hg : w.heap[g]? = some (.cells cs.toArray t fr))
 (hu : P.underlying ty = some d) (hd : (match d with | .struct _ | .array _ _ => true | _ => false) = true) (hi : (P.info? ty).map (·.size) = some sub.length) (hsub : ∀ j v, sub[j]? = some v -> cs[o + j]? = some v) :
 (loadVar ty ⟨g, o, none⟩).run P w = .ok (.agg sub.toArray) w := by
 have hl : (loadCells ⟨g, o, none⟩ sub.length).run P w = .ok sub.toArray w :=
  run_loadCells_list (P := P) w ⟨g, o, none⟩ sub (fun j v hv => by
   rw [Addr.add_lit, cell_of_row w g (o + j) cs.toArray t fr hg]
   simpa using hsub j v hv)
 cases hq : P.info? ty with
 | none => simp [hq] at hi
 | some i =>
   have hs : i.size = sub.length := by simpa [hq] using hi
   have hagg : (isAgg ty).run P w = .ok true w := by
    unfold isAgg
    rw [Sem.run_bind, run_underlying hu w]
    cases d <;> simp_all
   simp [loadVar, Sem.run_bind, hagg, sizeOf, typeInfo, hq, hs, hl]
theorem run_storeVar_part (w : World) (g o : Nat) (t ty : TypeId) (cur : Array Value) (cells : Array Value) (hg : w.heap[g]? = some (.cells cur t (0, 0))) (hi : (P.info? ty).map (·.size) = some cells.size)
 (hfit : o + cells.size <= cur.size) (h1 : ∀ v ∈ cells.toList, v.oneCell' = true) :
 (storeVar ty ⟨g, o, none⟩ (.agg cells)).run P w = .ok () (w.setRow g (cur.toList.take o ++ cells.toList ++ cur.toList.drop (o + cells.size)).toArray) := by
 have := run_storeCells_at P g o t cells.toList 0 cur w hg (by simpa using hfit) h1
 cases hq : P.info? ty with
 | none => simp [hq] at hi
 | some i =>
   have hs : i.size = cells.size := by simpa [hq] using hi
   simp only [Nat.add_zero, Array.length_toList] at this
   simp [storeVar, sizeOf, typeInfo, hq, Value.cells, hs, this]
theorem wp_store_part {o : Oper} {a : Act} {w : World} {K : Act -> World -> Prop} {Q : Exit -> Act -> World -> Prop} (ty : TypeId) (x y : Operand) (ho : o.op = .store ty x y)
 (g off : Nat) (cells : Array Value) (hx : a.eval x = .pointer (some ⟨g, off, none⟩)) (hy : a.eval y = .agg cells)
 (t : TypeId) (cur : Array Value) (hg : w.heap[g]? = some (.cells cur t (0, 0))) (hi : (P.info? ty).map (·.size) = some cells.size) (hfit : off + cells.size <= cur.size) (h1 : ∀ v ∈ cells.toList, v.oneCell' = true)
 (h : K (a.put o.dst undef) (w.setRow g (cur.toList.take off ++ cells.toList ++ cur.toList.drop (off + cells.size)).toArray)) : o.wp P a w K Q := by
 unfold Oper.wp execOp
 simp only [ho, hx, hy, Instr.storeAt, Instr.sureAddr, Sem.run_bind, Sem.run_pure, Result.andThen_ok, run_storeVar_part w g off t ty cur cells hg hi hfit h1]
 exact h
end
theorem wpList_arrayAt {P : Program} {ops : Array Oper} {rest : List Oper} {o : Oper} {a : Act} {w : World} {Q : Exit -> Act -> World -> Prop} (hw : Region.wanted o (yielded ops a.tmps) = true) (arr el : TypeId) (n : Nat) (x : Operand) (ho : o.op = .sliceToArrayPointer arr x)
 (hu : P.underlying arr = some (.array n el)) (A : Option Addr) (len cap : Nat) (hx : a.eval x = .slice A len cap) (hn : n <= len) (h : wpList P ops Q rest (a.put o.dst (.pointer A)) w) : wpList P ops Q (o :: rest) a w := by
 refine BigFrame.wpList_want hw fun K hK => ?_
 have hr : (Instr.arrayAt arr (.slice A len cap)).run P w = .ok (.pointer A) w := by
  unfold Instr.arrayAt
  simp [run_underlying hu, Nat.not_lt.2 hn]
 unfold Oper.wp execOp
 simp only [ho, hx, Sem.run_bind, Sem.run_pure, Result.andThen_ok, hr]
 exact hK _ _ h
theorem wpList_convG {P : Program} {ops : Array Oper} {rest : List Oper} {o : Oper} {a : Act} {w : World} {Q : Exit -> Act -> World -> Prop} (hw : Region.wanted o (yielded ops a.tmps) = true) (t u : TypeId) (x : Operand) (ho : o.op = .convert t u x)
 (X V : Value) (hx : a.eval x = X) (hb : (convert t u X).run P w = .ok V w) (h : wpList P ops Q rest (a.put o.dst V) w) : wpList P ops Q (o :: rest) a w := by
 refine BigFrame.wpList_want hw fun K hK => ?_
 unfold Oper.wp execOp
 simp only [ho, hx, Sem.run_bind, Sem.run_pure, Result.andThen_ok, hb]
 exact hK _ _ h
structure Only (S : Nat -> Prop) (w w' : World) : Prop where
 os : w'.os = w.os
 tape : w'.tape = w.tape
 output : w'.output = w.output
 size : w.heap.size <= w'.heap.size
 block : ∀ k, k < w.heap.size -> ¬ S k -> w'.heap[k]? = w.heap[k]?
section
variable {S T : Nat -> Prop} {w w' w'' : World}
theorem Only.refl (S : Nat -> Prop) (w : World) : Only S w w := ⟨rfl, rfl, rfl, Nat.le_refl _, fun _ _ _ => rfl⟩
theorem Only.trans (h : Only S w w') (h' : Only S w' w'') : Only S w w'' :=
 ⟨h'.os.trans h.os, h'.tape.trans h.tape, h'.output.trans h.output, Nat.le_trans h.size h'.size, fun k hk hS => (h'.block k (Nat.lt_of_lt_of_le hk h.size) hS).trans (h.block k hk hS)⟩
theorem Only.mono (h : Only S w w') (hST : ∀ k, k < w.heap.size -> S k -> T k) : Only T w w' := ⟨h.os, h.tape, h.output, h.size, fun k hk hT => h.block k hk fun hS => hT (hST k hk hS)⟩
theorem Only.below {B : Nat} (h : Below B w w') : Only (fun k => B <= k) w w' := ⟨h.os, h.tape, h.output, h.size, fun k hk hS => h.block k (Nat.not_le.1 hS)⟩
theorem Only.of_below {B : Nat} (h : Below B w w') (hB : w.heap.size <= B) : Only S w w' := ⟨h.os, h.tape, h.output, h.size, fun k hk hS => h.block k (by omega)⟩
theorem Only.to_below {B : Nat} (h : Only S w w') (hS : ∀ k, S k -> B <= k) (hB : B <= w.heap.size) : Below B w w' := ⟨h.os, h.tape, h.output, h.size, fun k hk => h.block k (by omega) fun hs => by have := hS k hs; omega⟩
theorem Only.drew (h : Only S w w') : Only S w w'.drew := ⟨h.os, h.tape, h.output, h.size, h.block⟩
theorem Only.alloc (h : Only S w w') (o : Obj) : Only S w (w'.alloc o) :=
 h.trans (Only.of_below ((Below.refl _ _).alloc (Nat.le_refl _) o) (Nat.le_refl _))
theorem Only.setCell (h : Only S w w') {p : Addr} (hp : S p.block) (v : Value) : Only S w (w'.setCell p v) := by
 have hb := (Below.refl p.block w').setCell (p := p) (Nat.le_refl _) v
 refine h.trans ⟨hb.os, hb.tape, hb.output, hb.size, fun k hk hS => ?_⟩
 exact heap_setCell_other w' p k v (fun e => hS (e ▸ hp))
theorem Only.setRow (h : Only S w w') {g : Nat} (hg : S g) (cs : Array Value) : Only S w (w'.setRow g cs) := by
 have hb := below_setRow (Below.refl g w') (Nat.le_refl _) cs
 refine h.trans ⟨hb.os, hb.tape, hb.output, hb.size, fun k hk hS => ?_⟩
 exact setRow_other w' g k cs (fun e => hS (e ▸ hg))
end
def RowS (w : World) (g c : Nat) (l : List ByteArray) : Prop :=
 ∃ cur : Array Value, w.heap[g]? = some (.cells cur 9 (0, 0)) /\ cur.size = c /\ cur.toList.take l.length = l.map Value.string /\ l.length <= c /\ c <= maxLen
section
variable {S : Nat -> Prop} {w w' : World} {g c : Nat} {l : List ByteArray}
theorem RowS.lt (h : RowS w g c l) : g < w.heap.size := by
 obtain ⟨cur, h1, _⟩ := h
 exact (Array.getElem?_eq_some_iff.1 h1).1
theorem RowS.keep (h : RowS w g c l) (hk : w'.heap[g]? = w.heap[g]?) : RowS w' g c l := by
 obtain ⟨cur, h1, h2⟩ := h
 exact ⟨cur, hk.trans h1, h2⟩
theorem RowS.only (h : RowS w g c l) (ho : Only S w w') (hg : ¬ S g) : RowS w' g c l := h.keep (ho.block g h.lt hg)
theorem RowS.far (h : RowS w g c l) {p : Addr} (hp : g ≠ p.block) (v : Value) : RowS (w.setCell p v) g c l := h.keep (heap_setCell_other w p g v hp)
theorem RowS.cell (h : RowS w g c l) {i : Nat} {s : ByteArray} (hs : l[i]? = some s) : w.cell? ⟨g, i, none⟩ = some (.string s) := by
 obtain ⟨cur, h1, _, h3, _⟩ := h
 obtain ⟨hi, _⟩ := List.getElem?_eq_some_iff.1 hs
 rw [cell_of_row w g i _ _ (0, 0) h1]
 have h4 : (cur.toList.take l.length)[i]? = some (.string s) := by rw [h3, List.getElem?_map, hs]; rfl
 rw [List.getElem?_take, if_pos hi] at h4
 simpa using h4
theorem RowS.frozen (h : RowS w g c l) (i : Nat) : w.frozen? ⟨g, i, none⟩ = false := by
 obtain ⟨cur, h1, _⟩ := h
 exact frozen_of_row w g i _ _ h1
theorem RowS.set_ (h : RowS w g c l) {i : Nat} (s : ByteArray) : RowS (w.setCell ⟨g, i, none⟩ (.string s)) g c (l.set i s) := by
 obtain ⟨cur, h1, h2, h3, h4, h5⟩ := h
 refine ⟨cur.setIfInBounds i (.string s), heap_setCell_same w g i _ _ _ h1, by simpa using h2, ?_, by simpa using h4, h5⟩
 rw [List.length_set, Array.toList_setIfInBounds, List.take_set, h3, List.map_set]
end
def OwnV (E : TypeId) (w : World) (base : Nat) (v : Value) (hs : List Value) : Prop := w.ownsRow base E 1 v hs.length hs
section
variable {E : TypeId} {w w' : World} {base n c : Nat} {A : Option Addr} {v : Value} {hs : List Value}
theorem OwnV.nil (E : TypeId) (w : World) (base : Nat) : OwnV E w base (.slice none 0 0) [] := ⟨by simp, .inl ⟨rfl, rfl⟩⟩
theorem OwnV.empty (E : TypeId) (w : World) : OwnV E (w.alloc (.cells #[] E)) w.heap.size (.slice (some ⟨w.heap.size, 0, none⟩) 0 0) [] :=
 ⟨by simp, .inr ⟨w.heap.size, 0, #[], rfl, Nat.le_refl _, heap_alloc_new w _, Nat.le_refl _, by simp, by simp, by simp⟩⟩
theorem OwnV.form (h : OwnV E w base v hs) : (v = .slice none 0 0 /\ hs = []) \/ ∃ g c cur, v = .slice (some ⟨g, 0, none⟩) hs.length c /\ base <= g /\ g < w.heap.size /\ w.heap[g]? = some (.cells cur E (0, 0)) /\ hs.length <= c /\ c <= maxLen /\ cur.size = c /\ cur.toList.take hs.length = hs := by
 rcases h.2 with ⟨e, hn⟩ | ⟨g, c, cur, e, hb, hg, hn, hc, hs', ht⟩
 · exact .inl ⟨e, List.eq_nil_of_length_eq_zero hn⟩
 · exact .inr ⟨g, c, cur, e, hb, (Array.getElem?_eq_some_iff.1 hg).1, hg, hn, hc, by simpa using hs', by simpa using ht⟩
theorem OwnV.len (h : OwnV E w base (.slice A n c) hs) : n = hs.length := by
 rcases h.form with ⟨e, rfl⟩ | ⟨g, c', cur, e, _⟩
 · simp only [Value.slice.injEq] at e
   exact e.2.1
 · simp only [Value.slice.injEq] at e
   exact e.2.1
theorem OwnV.caps (h : OwnV E w base (.slice A n c) hs) : n <= c /\ c <= maxLen := by
 rcases h.form with ⟨e, rfl⟩ | ⟨g, c', cur, e, _, _, _, h1, h2, _⟩
 · simp only [Value.slice.injEq] at e
   obtain ⟨rfl, rfl, rfl⟩ := e
   exact ⟨Nat.le_refl _, by simp⟩
 · simp only [Value.slice.injEq] at e
   obtain ⟨rfl, rfl, rfl⟩ := e
   exact ⟨h1, h2⟩
theorem OwnV.slice (h : OwnV E w base v hs) : ∃ A n c, v = .slice A n c := by
 rcases h.form with ⟨e, rfl⟩ | ⟨g, c', cur, e, _⟩
 · exact ⟨_, _, _, e⟩
 · exact ⟨_, _, _, e⟩
theorem OwnV.kept {row : Option Nat} (h : OwnV E w base v hs) (hg : w.grownBy w' row) (hne : v.ownBlock = none \/ v.ownBlock ≠ row) : OwnV E w' base v hs := World.ownsRow.kept h hg hne
theorem OwnV.alloc (h : OwnV E w base v hs) (o : Obj) : OwnV E (w.alloc o) base v hs := World.ownsRow.alloc h o
theorem OwnV.lt (h : OwnV E w base v hs) : ∀ k, v.ownBlock = some k -> base <= k /\ k < w.heap.size := World.ownsRow.lt h
theorem OwnV.only {S : Nat -> Prop} (h : OwnV E w base v hs) (ho : Only S w w') (hS : ∀ k, v.ownBlock = some k -> ¬ S k) : OwnV E w' base v hs := by
 refine ⟨h.1, ?_⟩
 rcases h.2 with h2 | ⟨g, c, cur, e, h3, hg, r⟩
 · exact .inl h2
 · exact .inr ⟨g, c, cur, e, h3, by rw [ho.block g (Array.getElem?_eq_some_iff.1 hg).1 (hS g (by rw [e]; rfl))]; exact hg, r⟩
theorem OwnV.below (h : OwnV E w base v hs) (hb : Below w.heap.size w w') : OwnV E w' base v hs :=
 h.only (S := fun _ => False) (Only.of_below hb (Nat.le_refl _)) (fun _ _ h => h)
theorem OwnV.drew (h : OwnV E w base v hs) : OwnV E w.drew base v hs := h
theorem OwnV.at_ (h : OwnV E w base (.slice A n c) hs) (hn : 0 < n) : ∃ g, A = some ⟨g, 0, none⟩ /\ base <= g /\ g < w.heap.size /\ ∀ i u, hs[i]? = some u -> w.cell? ⟨g, i, none⟩ = some u := by
 have hl := h.len
 rcases h.form with ⟨e, rfl⟩ | ⟨g, c', cur, e, hb, hlt, hg, h1, h2, h3, h4⟩
 · simp at hl; omega
 · simp only [Value.slice.injEq] at e
   obtain ⟨rfl, -, rfl⟩ := e
   refine ⟨g, rfl, hb, hlt, fun i u hu => ?_⟩
   have := World.ownsRow.cells (w := w) h (g := g) rfl i u hu
   simpa [Addr.add_lit] using this
end
theorem step_appV {P : Program} {w : World} {ops : Array Oper} {o : Oper} {a : Act} {K : Act -> World -> Prop} {Q : Exit -> Act -> World -> Prop} {F : Prop} (hw : Region.wanted o (yielded ops a.tmps) = true) (s x : Operand) (T E : TypeId) (z : Value) (bytes : Nat)
 (ho : o.op = .call { callee := .builtin .append, args := #[s, x], argTypes := #[T, T] })
 (ht : P.underlying T = some (.slice E)) (hi0 : (P.info? E).map (fun i => (i.zero, i.size, i.bytes)) = some (some z, 1, bytes)) (hz1 : z.cells.size = 1)
 (base : Nat) (v : Value) (hs ms : List Value) (hev : a.eval s = v) (hown : OwnV E w base v hs) (ad : Addr) (m c : Nat) (hx : a.eval x = .slice (some ad) m c) (hm : m = ms.length)
 (hnews : ∀ j u, ms[j]? = some u -> w.cell? (ad.add j) = some u) (h1 : ∀ u ∈ ms, u.oneCell' = true)
 (hlen : (hs.length + m) * (bytes + 1) <= 140737488355328) (hbase : base <= w.heap.size)
 (h : ∀ A' n' c' w', OwnV E w' base (.slice A' n' c') (hs ++ ms) -> w.grownBy w' v.ownBlock -> Below base w w' -> ((Value.slice A' n' c').ownBlock = v.ownBlock \/ (Value.slice A' n' c').ownBlock = some w.heap.size) -> K (a.put o.dst (.slice A' n' c')) w') :
 if Region.wanted o (yielded ops a.tmps) = true then Oper.wp P o a w K Q else F := by
 rw [if_pos hw]
 subst hm
 obtain ⟨i, hi, hz, hsz, hby⟩ := info_parts hi0
 have hb2 : (hs.length + ms.length) * bytes <= 140737488355328 := Nat.le_trans (Nat.mul_le_mul_left _ (Nat.le_succ _)) hlen
 have hb3 : hs.length + ms.length <= 140737488355328 := Nat.le_trans (Nat.le_mul_of_pos_right _ (Nat.succ_pos _)) hlen
 obtain ⟨v', w', hr, h2, h3, h4, h5⟩ := run_append_own_at (P := P) w base T o.type E i z 1 bytes ht hi hz hsz hby hz1 (by decide) v hs.length hs hown ad ms.length c ms (by simp) hnews h1 (by simp only [maxLen]; omega) hb2 hbase
 have hown2 : OwnV E w' base v' (hs ++ ms) := by
  unfold OwnV
  rw [List.length_append]
  exact h2
 obtain ⟨A', n', c', rfl⟩ := hown2.slice
 unfold Oper.wp execOp
 simp only [ho, resolve, invoke, builtin, Sem.run_bind, Sem.run_pure, Result.andThen_ok, List.map_toArray, List.map_cons, List.map_nil, hev, hx, hr]
 exact h A' n' c' w' hown2 h3 ((Below.refl base w).grown h3 hbase fun k hk => (hown.lt k hk).1) h5
section
variable {w : World} {base g n : Nat} {l : List UInt8}
theorem OwnB.block (h : OwnB w base (.slice (some ⟨g, 0, none⟩) n n) l) : w.heap[g]? = some (.cells (cellsB l).toArray 5 (0, 0)) /\ base <= g /\ n = l.length := by
 have hl := h.len
 rcases h.form with ⟨e, _⟩ | ⟨g', c, cur, e, hb, hlt, hg, hn, hc, hs, ht⟩
 · cases e
 · simp only [Value.slice.injEq, Option.some.injEq, Addr.mk.injEq, and_true] at e
   obtain ⟨rfl, -, rfl⟩ := e
   refine ⟨?_, hb, hl⟩
   have : cur = (cellsB l).toArray := by
    apply Array.toList_inj.1
    rw [<- ht, List.take_of_length_le (by rw [Array.length_toList]; omega)]
   rw [<- this]
   exact hg
theorem OwnB.of_block (h : w.heap[g]? = some (.cells (cellsB l).toArray 5 (0, 0))) (hb : base <= g) (hn : n = l.length) (hm : n <= maxLen) : OwnB w base (.slice (some ⟨g, 0, none⟩) n n) l := by
 subst hn
 exact ⟨by simp [cellsB], .inr ⟨g, l.length, _, rfl, hb, h, Nat.le_refl _, hm, by simp [cellsB], List.take_of_length_le (by simp [cellsB])⟩⟩
end
theorem wp_mk {P : Program} (w : World) {ops : Array Oper} {rest : List Oper} {o : Oper} {a : Act} {Q : Exit -> Act -> World -> Prop} (hg : o.guard = none) (l c : Operand) (hop : o.op = Op.makeSlice 34 l c)
 (ht : P.underlying 34 = some (.slice 5)) (hi0 : (P.info? 5).map (fun i => (i.zero, i.size, i.bytes)) = some (some (.int .u8 0), 1, 1))
 (base : Nat) (kl kc : IntKind) (L C : Int) (n : Nat) (hl : a.eval l = .int kl L) (hc : a.eval c = .int kc C) (hL : L = (n : Int)) (hC : C = (n : Int)) (hn : n <= 281474976710656) (hb : base <= w.heap.size)
 (hK : ∀ w', OwnB w' base (.slice (some ⟨w.heap.size, 0, none⟩) n n) (List.replicate n 0) -> Below base w w' -> wpList P ops Q rest (a.put o.dst (.slice (some ⟨w.heap.size, 0, none⟩) n n)) w') :
 wpList P ops Q (o :: rest) a w := by
 obtain ⟨i, hi, hz, hs, hby⟩ := info_parts hi0
 refine wpList_make_full w hg l c 34 hop base 5 i _ 1 ht hi hz hs kl kc L C n hl hc hL hC (by rw [hby]; omega) (by simp only [maxLen]; omega) hb ?_
 intro w' hown hgr
 refine hK w' ?_ ((Below.refl _ _).grown hgr hb (by simp))
 have e : (madeCells (Value.int .u8 0).cells (n * 1)).toList = cellsB (List.replicate n 0) := by
  rw [show (Value.int .u8 0).cells = #[Value.int .u8 0] from rfl, toList_madeCells_one]
  simp [cellsB]
 rw [e] at hown
 unfold OwnB
 rw [List.length_replicate]
 exact hown
def TwinB (w : World) (base : Nat) (A : Option Addr) (l : List UInt8) : Prop :=
 ∃ g, A = some ⟨g, 0, none⟩ /\ OwnB w base (.slice (some ⟨g, 0, none⟩) (l.length + 3) (l.length + 3)) (l ++ [229, 229, 229])
theorem TwinB.has {w : World} {base n : Nat} {A : Option Addr} {l : List UInt8} (h : TwinB w base A l) (hn : n = l.length) : HasB w w.heap.size A n l := by
 obtain ⟨g, rfl, hown⟩ := h
 obtain ⟨g', e, _, hlt, hc⟩ := hown.head (by omega)
 simp only [Option.some.injEq, Addr.mk.injEq, and_true] at e
 subst e
 refine ⟨hn, fun _ => ⟨g, 0, rfl, hlt, fun i b hb => ?_⟩⟩
 rw [Nat.zero_add]
 refine hc i b ?_
 rw [List.getElem?_append_left (List.getElem?_eq_some_iff.1 hb).1]
 exact hb
theorem TwinB.below {w w' : World} {base : Nat} {A : Option Addr} {l : List UInt8} (h : TwinB w base A l) (hb : Below w.heap.size w w') : TwinB w' base A l := by
 obtain ⟨g, rfl, hown⟩ := h
 exact ⟨g, rfl, hown.below hb⟩
end Go.Proofs.YthoebjekkfhhgaaGreat
