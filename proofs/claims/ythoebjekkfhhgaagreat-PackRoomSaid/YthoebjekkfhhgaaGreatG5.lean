/-
  Own work.
-/
import Derived.Test.YthoebjekkfhhgaaGreatG4
import Derived.Test.YthoebjekkfhhgaaGreatLs5
import Derived.TacticsInMore
set_option linter.unusedVariables false
set_option linter.unusedSimpArgs false
set_option maxRecDepth 100000
set_option maxHeartbeats 8000000
namespace Go.Proofs.YthoebjekkfhhgaaGreat
open Go.RowKit Go.Maps
theorem cells_zer (n : Nat) : cellsB (zer n) = List.replicate n (Value.int .u8 0) := by simp [cellsB, zer]
theorem madeZ (z : Value) (k N : Nat) (hk : 0 < k) : madeCells (List.replicate k z).toArray N = (List.replicate N z).toArray := by
 refine Array.ext (by simp [madeCells]) fun i h1 h2 => ?_
 have hm : i % k < k := Nat.mod_lt _ hk
 simp [madeCells, hm]
theorem madeSec (n : Nat) : madeCells (Value.agg (cellsB (zer 512)).toArray).cells (n * 512) = (cellsB (zer (512 * n))).toArray := by
 rw [cells_zer, cells_zer, Nat.mul_comm 512 n]
 exact madeZ _ 512 _ (by omega)
theorem wpList_makeSecs {ops : Array Oper} {rest : List Oper} {o : Oper} {a : Act} {w : World} {Q : Exit -> Act -> World -> Prop} (hg : o.guard = none) (l c : Operand) (hop : o.op = Op.makeSlice 177 l c)
 (n : Nat) (hl : a.eval l = .int .i64 (n : Int)) (hc : a.eval c = .int .i64 (n : Int)) (hn : n <= 4096)
 (hK : wpList Tryz.prog ops Q rest (a.put o.dst (.slice (some ⟨w.heap.size, 0, none⟩) n n)) (w.alloc (.cells (cellsB (zer (512 * n))).toArray 235))) : wpList Tryz.prog ops Q (o :: rest) a w := by
 refine wpList_plain hg fun K hK' => ?_
 have hi : (Tryz.prog.info? 235).map (fun i => (i.zero, i.size, i.bytes)) = some (some (.agg (cellsB (zer 512)).toArray), 512, 512) := by kernel_rfl
 obtain ⟨i, h2, h3, h4, h5⟩ := info_parts hi
 have hrun := run_make (P := Tryz.prog) w 177 235 i _ Tryz.underlying177 h2 h3 .i64 .i64 (n : Int) (n : Int) (by omega) (by omega) (by rw [h5]; omega) (by omega)
 rw [Int.toNat_natCast, h4, madeSec] at hrun
 unfold Oper.wp execOp
 simp only [hop, hl, hc, Sem.run_bind, Sem.run_pure, Result.andThen_ok, hrun]
 exact hK' _ _ hK
theorem alloc3 (w : World) (o1 o2 o3 : Obj) : (((w.alloc o1).alloc o2).alloc o3).heap[w.heap.size]? = some o1 /\ (((w.alloc o1).alloc o2).alloc o3).heap[w.heap.size + 1]? = some o2 /\ (((w.alloc o1).alloc o2).alloc o3).heap[w.heap.size + 1 + 1]? = some o3 /\ Below w.heap.size w (((w.alloc o1).alloc o2).alloc o3) := by
 have s1 : (w.alloc o1).heap.size = w.heap.size + 1 := by simp
 have s2 : ((w.alloc o1).alloc o2).heap.size = w.heap.size + 1 + 1 := by simp
 refine ⟨?_, ?_, ?_, (((Below.refl _ w).alloc (Nat.le_refl _) _).alloc (by omega) _).alloc (by omega) _⟩
 · rw [Below.heap_alloc _ o3 _ (by omega), Below.heap_alloc _ o2 _ (by omega)]
   exact (MapKept.heap_alloc w o1).1
 · rw [Below.heap_alloc _ o3 _ (by omega), <- s1]
   exact (MapKept.heap_alloc _ o2).1
 · rw [<- s2]
   exact (MapKept.heap_alloc _ o3).1
section
variable {S : Nat -> Prop} {w w' : World} {g gd gp n : Nat} {m m' : RM} {x x' : PX} {D : DU}
theorem PrD.made {w : World} {g gd gp n : Nat} (hb : w.heap[g]? = some (.cells #[.slice (some ⟨gd, 0, none⟩) n n, .map (some gp), .bool false, .bool false, .int .i64 0, .int .i64 0, .int .i64 0, .slice none 0 0, .int .i64 0, .int .i64 0] 182 (0, 0)))
 (hr : RowB w gd 235 (zer (512 * n)) []) (hm : w.ownsMap Tryz.prog 3 secElem gp 0 (.map [] : DU)) (d1 : g ≠ gd) (d2 : g ≠ gp) (d3 : gd ≠ gp) : PrD w g gd gp n (newM n) ⟨0, 0, none, 0, 0, [], n, []⟩ (.map []) :=
 ⟨hb, by rw [show flat (newM n).last = zer (512 * n) from flat_rep n]; exact hr, hm, MapOf.none n _ (fun i hi => by
  show ((List.replicate n emp).getD i emp).size = 0
  rw [List.getD_eq_getElem?_getD, List.getElem?_replicate]
  split <;> rfl), OwnB.nil _ _, fun h => absurd h (by show ¬ (0 : Int) <= -1; omega), ⟨fun _ => ⟨rfl, rfl⟩, fun h => absurd h (by show ¬ (0 : Int) <= -1; omega)⟩, d1, d2, d3, fun k hk => by cases hk⟩
theorem pnew (w : World) (n : Nat) (h1 : 32 <= n) (h2 : n <= 4096) :
 Calls Tryz.prog 67 #[.int .i64 (n : Int)] w fun e w' => ∃ g S, e = .returned (.pointer (some ⟨g, 0, none⟩)) /\ PD w' g S n (newM n) /\ (∀ k, S k -> w.heap.size <= k) /\ Below w.heap.size w w' := by
 go_enter Tryz.func67, Tryz.ntmps67
 have hmm : ∀ W : World, (Instr.makeMap 178 none).run Tryz.prog W = .ok (.map (some W.heap.size)) (W.alloc (.map #[] 0)) := fun W => by simp [Instr.makeMap, go_sem, Result.andThen]
 go_wp2_with (at_make; refine wpList_makeSecs rfl (.tmp 9) (.tmp 9) rfl n rfl rfl h2 ?_)
 go_ret
 obtain ⟨a1, a2, a3, a4⟩ := alloc3 w (.cells (cellsB (zer (512 * n))).toArray 235) (.map #[] 0) (.cells #[.slice (some ⟨w.heap.size, 0, none⟩) n n, .map (some (w.heap.size + 1)), .bool false, .bool false, .int .i64 0, .int .i64 0, .int .i64 0, .slice none 0 0, .int .i64 0, .int .i64 0] 182)
 have hr : RowB (((w.alloc (.cells (cellsB (zer (512 * n))).toArray 235)).alloc (.map #[] 0)).alloc (.cells #[.slice (some ⟨w.heap.size, 0, none⟩) n n, .map (some (w.heap.size + 1)), .bool false, .bool false, .int .i64 0, .int .i64 0, .int .i64 0, .slice none 0 0, .int .i64 0, .int .i64 0] 182)) w.heap.size 235 (zer (512 * n)) [] := by
  unfold RowB
  rw [List.append_nil]
  exact a1
 have hp := PrD.made a3 hr ⟨#[], 0, a2, ⟨by simp, MapKept.stamped_empty 0, by simp⟩, Nat.le_refl _, rfl⟩ (by omega) (by omega) (by omega)
 refine ⟨_, _, rfl, ⟨_, _, _, _, hp, rfl⟩, ?_, a4⟩
 rintro k (rfl | rfl | rfl | hk)
 · omega
 · omega
 · omega
 · cases hk
theorem pnew_no (w : World) (i : Int) (h : i < 32 \/ 4096 < i) (hi : -9223372036854775808 <= i /\ i <= 9223372036854775807) :
 Calls Tryz.prog 67 #[.int .i64 i] w fun e w' => e = .returned (.pointer none) /\ Below w.heap.size w w' := by
 obtain ⟨i1, i2⟩ := hi
 by_cases h1 : i < 32
 · go_enter Tryz.func67, Tryz.ntmps67
   go_wp2_with fail
   go_ret
   exact ⟨rfl, Below.refl _ _⟩
 · have h2 : 4096 < i := by omega
   clear h
   go_enter Tryz.func67, Tryz.ntmps67
   go_wp2_with fail
   go_ret
   exact ⟨rfl, Below.refl _ _⟩
end
end Go.Proofs.YthoebjekkfhhgaaGreat
namespace Go.Proofs.YthoebjekkfhhgaaGreat
open Go.RowKit Go.Maps Go.Sort Go.Shelf
theorem sorts40 (m : Nat) : AnyZI.SortsIn Tryz.prog sorted40_ren Fence.wide m :=
 ⟨fun blk off cap ss W hH hblk hsz => callsIn_wide.2 (AnyM.slices_Sort_int sort49 blk off cap ss W hH hblk hsz),
  fun p cap W => callsIn_wide.2 (AnyM.slices_Sort_int_none sort49 p cap W)⟩
section
variable {w : World} {g gd gp n : Nat} {m : RM} {x : PX} {D : DU}
end
end Go.Proofs.YthoebjekkfhhgaaGreat
namespace Go.Proofs.YthoebjekkfhhgaaGreat
open Go.RowKit Go.Maps
def pwF (m : RM) (keep : List Bool) (j i : Nat) : Bool := pendB m i && (decide ((m.wtK i).length < j) && keep.getD (m.wtK i).length false)
section
variable {S : Nat -> Prop} {w w' : World} {g gd gp n : Nat} {m m' : RM} {x x' : PX} {D : DU}
theorem HasNo.only {T : Nat -> Prop} {A : Option Addr} {q : Nat} {l : List Bool} (h : HasNo w S A q l) (ho : Only T w w') (hT : ∀ k, ¬ S k -> ¬ T k) : HasNo w' S A q l :=
 ⟨h.1, fun hn => by
  obtain ⟨b, o, e, hg, hS, hc⟩ := h.2 hn
  refine ⟨b, o, e, Nat.lt_of_lt_of_le hg ho.size, hS, fun i y hi => ?_⟩
  have := hc i y hi
  unfold World.cell? at this ⊢
  rw [ho.block b hg (hT b hS)]
  exact this⟩
end
section
variable {S : Nat -> Prop} {w w' : World} {g gd gp n : Nat} {m m' : RM} {x x' : PX} {D : DU}
structure PwS (w wr : World) (g gd gp n : Nat) (m : RM) (x : PX) (D : DU) (B : Option Addr) (p d : Nat) (A : Option Addr) (q : Nat) (keep : List Bool) (j : Nat) : Prop where
 dk : PrD wr g gd gp n { m with last := mix m n (pwF m keep j) } x D
 own : OwnV 3 wr w.heap.size (.slice B p d) (ints (m.wtK n))
 kp : HasNo wr (PrB g gd gp x) A q keep
 o : Only (PrB g gd gp x) w wr
theorem PwS.drew {wr : World} {B : Option Addr} {p d : Nat} {A : Option Addr} {q : Nat} {keep : List Bool} {j : Nat} (h : PwS w wr g gd gp n m x D B p d A q keep j) : PwS w wr.drew g gd gp n m x D B p d A q keep j := ⟨h.dk.drew, h.own.drew, h.kp, h.o.drew⟩
theorem PrD.back (h : PrD w g gd gp n m x D) {w' : World} (ho : Only (fun j => j = g) w w') (hb : w'.heap[g]? = some (.cells (pdC gd gp n { m with off := false, arms := -1, way := -1, powers := m.powers + 1 } { x with sc := 0, TA := none, tn := 0, tc := 0, tl := [] }) 182 (0, 0))) :
 PrD w' g gd gp n { m with off := false, arms := -1, way := -1, powers := m.powers + 1 } { x with sc := 0, TA := none, tn := 0, tc := 0, tl := [] } D :=
 ⟨hb, (ho.block gd h.row.lt (fun e => h.d1 e.symm)).trans h.row, ownsMap_only h.map ho (fun e => h.d2 e.symm), h.mo, OwnB.nil _ _, fun h0 => absurd h0 (by show ¬ (0 : Int) <= -1; omega), ⟨fun _ => ⟨rfl, rfl⟩, fun h0 => absurd h0 (by show ¬ (0 : Int) <= -1; omega)⟩, h.d1, h.d2, h.d3, fun k hk => by cases hk⟩
end
theorem retV_below {w : World} {v : Value} {f : FuncId} {args : Array Value} (h : Calls Tryz.prog f args w (RetV w v)) : Calls Tryz.prog f args w fun e w' => e = .returned v /\ Below w.heap.size w w' :=
 h.mono fun e w' ⟨h1, h2⟩ => ⟨h1, h2 ▸ Below.refl _ _⟩
theorem pwrite_any {w : World} {g n : Nat} {S : Nat -> Prop} {m : RM} (i : Int) (A : Option Addr) (q c : Nat) (l : List UInt8) (h : PD w g S n m) (ok : m.Ok n) (hw : m.wrote < 1073741824) (hi : -9223372036854775808 <= i /\ i <= 9223372036854775807) (hB : HasN w S A q l) (hqc : q <= c) (hq : q <= 1073741824) :
 Calls Tryz.prog 136 #[.pointer (some ⟨g, 0, none⟩), .int .i64 i, .slice A q c] w (Left2 PD w g S n (.int .i64 (m.writeE n i (strB l))) (m.writeM n i (strB l))) := by
 obtain ⟨gd, gp, x, D, p, rfl⟩ := h
 exact pwrite i A q c l p ok hw hi hB hqc hq
theorem pflush_any {w : World} {g n : Nat} {S : Nat -> Prop} {m : RM} (h : PD w g S n m) (ok : m.Ok n) :
 Calls Tryz.prog 135 #[.pointer (some ⟨g, 0, none⟩)] w (Left2 PD w g S n (.int .i64 m.flushE) (m.flushM n)) := by
 obtain ⟨gd, gp, x, D, p, rfl⟩ := h
 exact pflush p ok
def theDK : DK where
 D := PD
 lt := by
  rintro w g S n m ⟨gd, gp, x, D, p, rfl⟩
  exact p.lt
 only := by
  rintro w w' g S T n m ⟨gd, gp, x, D, p, rfl⟩ ho hT
  exact ⟨gd, gp, x, D, p.only ho hT, rfl⟩
 len_q := by
  rintro w g S n m ⟨gd, gp, x, D, p, rfl⟩ ok
  exact plen p ok
 lives_q := by
  rintro w g S n m ⟨gd, gp, x, D, p, rfl⟩ ok
  exact plives p ok
 new_any := pnew
 new_no := pnew_no
 len_any := by
  rintro w g S n m ⟨gd, gp, x, D, p, rfl⟩ ok
  exact retV_below (plen p ok)
 lives_any := by
  rintro w g S n m ⟨gd, gp, x, D, p, rfl⟩ ok
  exact retV_below (plives p ok)
 read_any := by
  rintro w g S n m i ⟨gd, gp, x, D, p, rfl⟩ ok hi
  exact pread i p ok hi
 write_any := pwrite_any
 flush_any := pflush_any
end Go.Proofs.YthoebjekkfhhgaaGreat
