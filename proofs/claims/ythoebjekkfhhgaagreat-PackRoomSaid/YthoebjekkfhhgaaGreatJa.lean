/-
  Own work.
-/
import Derived.Test.YthoebjekkfhhgaaGreatCp9
import Derived.Test.YthoebjekkfhhgaaGreatG6
set_option linter.unusedVariables false
set_option linter.unusedSimpArgs false
set_option maxRecDepth 100000
set_option maxHeartbeats 8000000
namespace Go.Proofs.YthoebjekkfhhgaaGreat
open Go.RowKit
theorem res_ct {fn : Func} {p q : Tmp} {ty : TypeId} (h : fn.results = #[.cell q ty, .tmp p]) (tmps : Array Value) (w : World) (g : Nat) (v u : Value) (hp : tmps.getD p undef = v)
 (hq : tmps.getD q undef = .pointer (some ⟨g, 0, none⟩)) (hl : (loadVar ty ⟨g, 0, none⟩).run Tryz.prog w = .ok u w) :
 (results fn tmps).run Tryz.prog w = .ok (.tuple #[u, v]) w := by
 have hp' : tmps[p]?.getD undef = v := by simpa using hp
 have hq' : tmps[q]?.getD undef = .pointer (some ⟨g, 0, none⟩) := by simpa using hq
 simp [results, h, hp', hq', asAddr, hl]
def RetMk (w : World) (k : Mk) (b : Bool) (e : Ending) (w' : World) : Prop := e = .returned (.tuple #[.agg (mkC k), .bool b]) /\ Below w.heap.size w w'
theorem four_mk {w : World} {g : Nat} {k : Mk} {a b c d : Value} (h : w.heap[g]? = some (.cells #[a, b, c, d] 137 (0, 0))) :
 ((((w.setCell ⟨g, 0, none⟩ (.int .u64 (k.num : Int))).setCell ⟨g, 1, none⟩ (.int .u64 (k.turn : Int))).setCell ⟨g, 2, none⟩ (.int .u32 (k.pos : Int))).setCell ⟨g, 3, none⟩ (.int .u32 (k.ring : Int))).heap[g]? = some (.cells (mkC k) 137 (0, 0)) := by
 have h1 := heap_setCell_same w g 0 _ _ (.int .u64 (k.num : Int)) h
 have h2 := heap_setCell_same _ g 1 _ _ (.int .u64 (k.turn : Int)) h1
 have h3 := heap_setCell_same _ g 2 _ _ (.int .u32 (k.pos : Int)) h2
 have h4 := heap_setCell_same _ g 3 _ _ (.int .u32 (k.ring : Int)) h3
 rw [h4]
 rfl
theorem load_u32 {W : World} {ad : Addr} {v : Int} (h : W.cell? ad = some (.int .u32 v)) : (loadVar 30 ad).run Tryz.prog W = .ok (.int .u32 v) W := by
 simp [loadVar, isAgg, run_underlying Tryz.underlying30, go_sem, h]
theorem step_storeM {w : World} {ops : Array Oper} {o : Oper} {a : Act} {K : Act -> World -> Prop} {Q : Exit -> Act -> World -> Prop} {F : Prop} (hgd : o.guard = none) (x y : Operand) (ho : o.op = .store 137 x y)
 (g : Nat) (k : Mk) (hx : a.eval x = .pointer (some ⟨g, 0, none⟩)) (hy : a.eval y = .agg (mkC k)) (old : Array Value) (hB : w.heap[g]? = some (.cells old 137 (0, 0))) (ho' : old.size = 4)
 (h : K (a.put o.dst undef) (w.setRow g (mkC k))) : if Region.wanted o (yielded ops a.tmps) = true then Oper.wp Tryz.prog o a w K Q else F := by
 have hw : Region.wanted o (yielded ops a.tmps) = true := by simp [Region.wanted, hgd]
 rw [if_pos hw]
 exact wp_store_row _ x y ho g _ hx hy _ _ hB infoMk ho' (by simp [mkC, Value.oneCell']) h
section
variable {Z : DK} {w w' : World} {gd n : Nat} {S : Nat -> Prop} {m : RM}
theorem markOf_any (s : List UInt8) (d : Z.D w gd S n m) (ok : m.Ok n) (hs : s.length = 512) : Calls Tryz.prog 138 #[.agg (cellsB s).toArray, .pointer (some ⟨gd, 0, none⟩)] w (RetMk w (markS s) (markB n s)) := by
 obtain ⟨w0, hw0⟩ : ∃ w0, (w.alloc (.cells (cellsB s).toArray 185)).alloc (.cells #[.int .u64 0, .int .u64 0, .int .u32 0, .int .u32 0] 137) = w0 := ⟨_, rfl⟩
 have hb : Below w.heap.size w w0 := by rw [<- hw0]; exact ((Below.refl _ _).alloc (Nat.le_refl _) _).alloc (by simp) _
 have h1 : Bw w0 w.heap.size 185 s := by rw [<- hw0]; exact (Bw.new w s _).alloc _
 have h2 : w0.heap[w.heap.size + 1]? = some (.cells #[.int .u64 0, .int .u64 0, .int .u32 0, .int .u32 0] 137 (0, 0)) := by
  rw [<- hw0]
  have := heap_alloc_new (w.alloc (.cells (cellsB s).toArray 185)) (.cells #[.int .u64 0, .int .u64 0, .int .u32 0, .int .u32 0] 137)
  simpa using this
 have hlt2 : w.heap.size + 1 < w0.heap.size := (Array.getElem?_eq_some_iff.1 h2).1
 have c1 := stag_any h1 hs
 have c2 := snum_any 8 8 h1 hs (by omega) (by omega) (by omega)
 have c3 := snum_any 16 4 h1 hs (by omega) (by omega) (by omega)
 have c4 := snum_any 20 4 h1 hs (by omega) (by omega) (by omega)
 have b3 : num (sub s 16 4) < 4294967296 := by have := num_lt (sub s 16 4); rw [sub_len (by omega)] at this; omega
 have b4 : num (sub s 20 4) < 4294967296 := by have := num_lt (sub s 20 4); rw [sub_len (by omega)] at this; omega
 have ek : markS s = ⟨tagOf s, num (sub s 8 8), num (sub s 16 4), num (sub s 20 4)⟩ := rfl
 have eb : markB n s = decide (tagOf s ≠ 0 /\ 1 <= num (sub s 8 8) /\ num (sub s 8 8) < 4611686018427387904 /\ fitsB n (num (sub s 20 4) : Int) = true /\ num (sub s 16 4) < num (sub s 20 4)) := rfl
 rw [ek, eb]
 obtain ⟨x, hx⟩ : ∃ x, tagOf s = x := ⟨_, rfl⟩
 obtain ⟨t, ht⟩ : ∃ t, num (sub s 8 8) = t := ⟨_, rfl⟩
 obtain ⟨p, hp⟩ : ∃ p, num (sub s 16 4) = p := ⟨_, rfl⟩
 obtain ⟨r, hr⟩ : ∃ r, num (sub s 20 4) = r := ⟨_, rfl⟩
 rw [hx] at c1
 rw [ht] at c2
 rw [hp] at c3 b3
 rw [hr] at c4 b4
 rw [hx, ht, hp, hr]
 have dW : ∀ W, Below w.heap.size w W -> Z.D W gd S n m := fun W hW => Z.only d (Only.of_below (S := fun _ => False) hW (Nat.le_refl _)) (fun _ _ h => h)
 have CF : Hid (∀ W, Below w.heap.size w W -> Calls Tryz.prog 102 #[.pointer (some ⟨gd, 0, none⟩), .int .i64 (r : Int)] W (fun e w'' => e = .returned (.bool (fitsB n (r : Int))) /\ w'' = W)) := lH (fun W hW => RetW.still (fits_any (r : Int) (dW W hW) ok (by omega)))
 obtain ⟨f, hf⟩ : ∃ f, fitsB n (r : Int) = f := ⟨_, rfl⟩
 rw [hf] at CF ⊢
 have cp : IntKind.u32.wrap (p : Int) = (p : Int) := by rw [IntKind.wrap_u32]; omega
 have ci : IntKind.i64.wrap (r : Int) = (r : Int) := by rw [IntKind.wrap_i64]; omega
 have cr : IntKind.u32.wrap (r : Int) = (r : Int) := by rw [IntKind.wrap_u32]; omega
 have C1 := lH c1
 have C2 := lH c2
 have C3 := lH c3
 have C4 := lH c4
 have H2 := lH h2
 have B0 := lH hb
 have W0 := lH hw0
 have B5 : Hid (∀ w5, w0.alloc (.cells #[.int .u64 (x : Int), .int .u64 (t : Int), .int .u32 (p : Int), .int .u32 (r : Int)] 137) = w5 ->
  Below w.heap.size w w5 /\ w5.heap[w0.heap.size]? = some (.cells (mkC ⟨x, t, p, r⟩) 137 (0, 0)) /\ w5.heap[w.heap.size + 1]? = some (.cells #[.int .u64 0, .int .u64 0, .int .u32 0, .int .u32 0] 137 (0, 0))) := lH (fun w5 h5 => by
  rw [<- h5]
  exact ⟨hb.alloc hb.size _, heap_alloc_new w0 _, (Below.heap_alloc w0 _ _ hlt2).trans h2⟩)
 clear hb h1 h2 hw0 c1 c2 c3 c4 ek eb hx ht hp hr hf d dW ok hs
 by_cases hx0 : x = 0
 · rw [decide_eq_false (fun hh => hh.1 hx0)]
   have g1 : ((x : Int) != 0) = false := by rw [hx0]; rfl
   clear hx0
   go_enter Tryz.func138, Tryz.ntmps138
   go_upto_region 1 with fail
   rw [W0.out]
   go_upto_region 2 with (first
    | (go_at_call 141; refine C1.out.mono ?_; rintro e w1 ⟨rfl, rfl⟩)
    | (go_at_call_of 140 (Value.int .i64 20); refine C4.out.mono ?_; rintro e w1 ⟨rfl, rfl⟩)
    | (go_at_call_of 140 (Value.int .i64 16); refine C3.out.mono ?_; rintro e w1 ⟨rfl, rfl⟩)
    | (go_at_call 140; refine C2.out.mono ?_; rintro e w1 ⟨rfl, rfl⟩))
   generalize hw5 : World.alloc _ _ = w5
   obtain ⟨b5, h5, r5⟩ := B5.out w5 hw5
   have H5 : Hid (w5.drew.heap[w0.heap.size]? = some (.cells (mkC ⟨x, t, p, r⟩) 137 (0, 0))) := lH h5
   have k0 : w5.cell? ⟨w0.heap.size, 0, none⟩ = some (.int .u64 (x : Int)) := cell_of_row w5 _ 0 _ _ (0, 0) h5
   have k1 : w5.cell? ⟨w0.heap.size, 1, none⟩ = some (.int .u64 (t : Int)) := cell_of_row w5 _ 1 _ _ (0, 0) h5
   have k2 : w5.cell? ⟨w0.heap.size, 2, none⟩ = some (.int .u32 (p : Int)) := cell_of_row w5 _ 2 _ _ (0, 0) h5
   have k3 : w5.cell? ⟨w0.heap.size, 3, none⟩ = some (.int .u32 (r : Int)) := cell_of_row w5 _ 3 _ _ (0, 0) h5
   have q0 : w5.cell? ⟨w.heap.size + 1, 0, none⟩ = some (.int .u64 0) := cell_of_row w5 _ 0 _ _ (0, 0) r5
   have q1 : w5.cell? ⟨w.heap.size + 1, 1, none⟩ = some (.int .u64 0) := cell_of_row w5 _ 1 _ _ (0, 0) r5
   have q2 : w5.cell? ⟨w.heap.size + 1, 2, none⟩ = some (.int .u32 0) := cell_of_row w5 _ 2 _ _ (0, 0) r5
   have q3 : w5.cell? ⟨w.heap.size + 1, 3, none⟩ = some (.int .u32 0) := cell_of_row w5 _ 3 _ _ (0, 0) r5
   have z0 : w5.frozen? ⟨w.heap.size + 1, 0, none⟩ = false := frozen_of_row w5 _ 0 _ _ r5
   have z1 : w5.frozen? ⟨w.heap.size + 1, 1, none⟩ = false := frozen_of_row w5 _ 1 _ _ r5
   have z2 : w5.frozen? ⟨w.heap.size + 1, 2, none⟩ = false := frozen_of_row w5 _ 2 _ _ r5
   have z3 : w5.frozen? ⟨w.heap.size + 1, 3, none⟩ = false := frozen_of_row w5 _ 3 _ _ r5
   have D5 := lH b5
   have R5 := lH r5
   have CF5 := lH (CF.out w5.drew b5.drew)
   clear b5 h5 r5 hw5
   go_wp2_with fail
   go_region
   go_wp2_with fail
   have R6 := four_mk (k := ⟨x, t, p, r⟩) R5.out
   refine bodyPost_ret (v := .tuple #[.agg (mkC ⟨x, t, p, r⟩), .bool false]) (res_ct (p := 5) (q := 4) (ty := 137) rfl _ _ (w.heap.size + 1) _ _ rfl rfl (load_mk (by exact R6))) (by rfl) ?_
   exact ⟨rfl, ((((D5.out.setCell (p := ⟨w.heap.size + 1, 0, none⟩) (by show _ <= w.heap.size + 1; omega) _).setCell (p := ⟨w.heap.size + 1, 1, none⟩) (by show _ <= w.heap.size + 1; omega) _).setCell (p := ⟨w.heap.size + 1, 2, none⟩) (by show _ <= w.heap.size + 1; omega) _).setCell (p := ⟨w.heap.size + 1, 3, none⟩) (by show _ <= w.heap.size + 1; omega) _).drew⟩
 · have g1 : ((x : Int) != 0) = true := by rw [bne_iff_ne]; omega
   by_cases ht0 : 1 <= t
   · have g2 : decide ((1 : Int) <= (t : Int)) = true := decide_eq_true (by omega)
     have ht0' : (1 : Int) <= (t : Int) := by omega
     by_cases ht2 : t < 4611686018427387904
     · have g3 : decide ((t : Int) < 4611686018427387904) = true := decide_eq_true (by omega)
       have ht2' : (t : Int) < 4611686018427387904 := by omega
       cases f with
       | false =>
         rw [decide_eq_false (fun hh => by have := hh.2.2.2.1; cases this)]
         clear hx0 ht0 ht2
         go_enter Tryz.func138, Tryz.ntmps138
         go_upto_region 1 with fail
         rw [W0.out]
         go_upto_region 2 with (first
          | (go_at_call 141; refine C1.out.mono ?_; rintro e w1 ⟨rfl, rfl⟩)
          | (go_at_call_of 140 (Value.int .i64 20); refine C4.out.mono ?_; rintro e w1 ⟨rfl, rfl⟩)
          | (go_at_call_of 140 (Value.int .i64 16); refine C3.out.mono ?_; rintro e w1 ⟨rfl, rfl⟩)
          | (go_at_call 140; refine C2.out.mono ?_; rintro e w1 ⟨rfl, rfl⟩))
         generalize hw5 : World.alloc _ _ = w5
         obtain ⟨b5, h5, r5⟩ := B5.out w5 hw5
         have H5 : Hid (w5.drew.heap[w0.heap.size]? = some (.cells (mkC ⟨x, t, p, r⟩) 137 (0, 0))) := lH h5
         have k0 : w5.cell? ⟨w0.heap.size, 0, none⟩ = some (.int .u64 (x : Int)) := cell_of_row w5 _ 0 _ _ (0, 0) h5
         have k1 : w5.cell? ⟨w0.heap.size, 1, none⟩ = some (.int .u64 (t : Int)) := cell_of_row w5 _ 1 _ _ (0, 0) h5
         have k2 : w5.cell? ⟨w0.heap.size, 2, none⟩ = some (.int .u32 (p : Int)) := cell_of_row w5 _ 2 _ _ (0, 0) h5
         have k3 : w5.cell? ⟨w0.heap.size, 3, none⟩ = some (.int .u32 (r : Int)) := cell_of_row w5 _ 3 _ _ (0, 0) h5
         have q0 : w5.cell? ⟨w.heap.size + 1, 0, none⟩ = some (.int .u64 0) := cell_of_row w5 _ 0 _ _ (0, 0) r5
         have q1 : w5.cell? ⟨w.heap.size + 1, 1, none⟩ = some (.int .u64 0) := cell_of_row w5 _ 1 _ _ (0, 0) r5
         have q2 : w5.cell? ⟨w.heap.size + 1, 2, none⟩ = some (.int .u32 0) := cell_of_row w5 _ 2 _ _ (0, 0) r5
         have q3 : w5.cell? ⟨w.heap.size + 1, 3, none⟩ = some (.int .u32 0) := cell_of_row w5 _ 3 _ _ (0, 0) r5
         have z0 : w5.frozen? ⟨w.heap.size + 1, 0, none⟩ = false := frozen_of_row w5 _ 0 _ _ r5
         have z1 : w5.frozen? ⟨w.heap.size + 1, 1, none⟩ = false := frozen_of_row w5 _ 1 _ _ r5
         have z2 : w5.frozen? ⟨w.heap.size + 1, 2, none⟩ = false := frozen_of_row w5 _ 2 _ _ r5
         have z3 : w5.frozen? ⟨w.heap.size + 1, 3, none⟩ = false := frozen_of_row w5 _ 3 _ _ r5
         have D5 := lH b5
         have R5 := lH r5
         have CF5 := lH (CF.out w5.drew b5.drew)
         clear b5 h5 r5 hw5
         go_wp2_with fail
         refine wp_region_held_drew (S := fun W => W.heap[w0.heap.size]? = some (.cells (mkC ⟨x, t, p, r⟩) 137 (0, 0))) (by kernel_rfl) H5.out (fun hHeld => ?_)
         refine tk9 (i := 0) (hy := (yieldsIf_loadG (by rfl) 137 (.tmp 6) rfl ⟨w0.heap.size, 0, none⟩ rfl _ (fun W hW => load_mk hW))) (h := ?_)
         try simp only [aP,aN,aS,aZ,aC]
         refine tk9 (i := 1) (h := ?_)
         try simp only [aP,aN,aS,aZ,aC]
         refine tk9 (i := 2) (h := ?_)
         try simp only [aP,aN,aS,aZ,aC]
         refine tk9 (i := 3) (h := ?_)
         try simp only [aP,aN,aS,aZ,aC]
         refine tk9 (i := 4) (h := ?_)
         try simp only [aP,aN,aS,aZ,aC]
         refine tk9 (i := 5) (hy := (yieldsIf_loadG (by rfl) 30 (.tmp 32) rfl ⟨w0.heap.size, 3, none⟩ rfl _ (fun W hW => load_u32 (cell_of_row W _ 3 _ _ (0, 0) hW)))) (h := ?_)
         try simp only [aP,aN,aS,aZ,aC]
         refine tk9 (i := 6) (h := ?_)
         try simp only [aP,aN,aS,aZ,aC]
         refine rd9 (i := 7) (h := fun K hK => ?_)
         go_simp
         refine CF5.out.mono ?_
         rintro e w7 ⟨rfl, hw7⟩
         subst hw7
         have hS7 := hHeld
         refine hK _ _ hS7 (fun hH7 => ?_)
         clear hK K
         try simp only [aP,aN,aS,aZ,aC]
         refine tk9 (i := 8) (h := ?_)
         try simp only [aP,aN,aS,aZ,aC]
         refine tk9 (i := 9) (h := ?_)
         try simp only [aP,aN,aS,aZ,aC]
         refine tk9 (i := 10) (v := undef) (hy := (Or.inr ⟨by rfl, rfl⟩)) (h := ?_)
         try simp only [aP,aN,aS,aZ,aC]
         refine tk9 (i := 11) (v := undef) (hy := (Or.inr ⟨by rfl, rfl⟩)) (h := ?_)
         try simp only [aP,aN,aS,aZ,aC]
         refine tk9 (i := 12) (v := undef) (hy := (Or.inr ⟨by rfl, rfl⟩)) (h := ?_)
         try simp only [aP,aN,aS,aZ,aC]
         refine tk9 (i := 13) (v := undef) (hy := (Or.inr ⟨by rfl, rfl⟩)) (h := ?_)
         try simp only [aP,aN,aS,aZ,aC]
         refine tk9 (i := 14) (v := undef) (hy := (Or.inr ⟨by rfl, rfl⟩)) (h := ?_)
         try simp only [aP,aN,aS,aZ,aC]
         refine tk9 (i := 15) (h := ?_)
         try simp only [aP,aN,aS,aZ,aC]
         refine rd9 (i := 16) (h := fun K hK => ?_)
         refine step_storeM rfl (.tmp 4) (.tmp 28) rfl (w.heap.size + 1) ⟨x, t, p, r⟩ rfl rfl _ R5.out rfl ?_
         refine hK _ _ (by exact (setRow_other w5.drew (w.heap.size + 1) w0.heap.size _ (by omega)).trans H5.out) (fun hH16 => ?_)
         clear hK K
         try simp only [aP,aN,aS,aZ,aC]
         refine tk9 (i := 17) (h := ?_)
         try simp only [aP,aN,aS,aZ,aC]
         refine wpAnyH_done (by kernel_rfl) ?_ _
         go_wp2_with fail
         have R6 : (w5.drew.setRow (w.heap.size + 1) (mkC ⟨x, t, p, r⟩)).heap[w.heap.size + 1]? = some (.cells (mkC ⟨x, t, p, r⟩) 137 (0, 0)) := setRow_heap _ _ _ _ _ _ R5.out
         refine bodyPost_ret (v := .tuple #[.agg (mkC ⟨x, t, p, r⟩), .bool false]) (res_ct (p := 5) (q := 4) (ty := 137) rfl _ _ (w.heap.size + 1) _ _ rfl rfl (load_mk R6)) (by rfl) ?_
         exact ⟨rfl, below_setRow D5.out.drew (by omega) _⟩
       | true =>
         obtain ⟨b, hbb⟩ : ∃ b, decide ((p : Int) < (r : Int)) = b := ⟨_, rfl⟩
         have eb2 : decide (x ≠ 0 /\ 1 <= t /\ t < 4611686018427387904 /\ true = true /\ p < r) = b := by rw [<- hbb, Bool.eq_iff_iff, decide_eq_true_iff, decide_eq_true_iff]; exact ⟨fun hh => by have := hh.2.2.2.2; omega, fun hh => ⟨hx0, ht0, ht2, rfl, by omega⟩⟩
         rw [eb2]
         have hbn : decide (p < r) = b := by rw [<- hbb, Bool.eq_iff_iff, decide_eq_true_iff, decide_eq_true_iff]; omega
         clear hx0 ht0 ht2 eb2
         go_enter Tryz.func138, Tryz.ntmps138
         go_upto_region 1 with fail
         rw [W0.out]
         go_upto_region 2 with (first
          | (go_at_call 141; refine C1.out.mono ?_; rintro e w1 ⟨rfl, rfl⟩)
          | (go_at_call_of 140 (Value.int .i64 20); refine C4.out.mono ?_; rintro e w1 ⟨rfl, rfl⟩)
          | (go_at_call_of 140 (Value.int .i64 16); refine C3.out.mono ?_; rintro e w1 ⟨rfl, rfl⟩)
          | (go_at_call 140; refine C2.out.mono ?_; rintro e w1 ⟨rfl, rfl⟩))
         generalize hw5 : World.alloc _ _ = w5
         obtain ⟨b5, h5, r5⟩ := B5.out w5 hw5
         have H5 : Hid (w5.drew.heap[w0.heap.size]? = some (.cells (mkC ⟨x, t, p, r⟩) 137 (0, 0))) := lH h5
         have k0 : w5.cell? ⟨w0.heap.size, 0, none⟩ = some (.int .u64 (x : Int)) := cell_of_row w5 _ 0 _ _ (0, 0) h5
         have k1 : w5.cell? ⟨w0.heap.size, 1, none⟩ = some (.int .u64 (t : Int)) := cell_of_row w5 _ 1 _ _ (0, 0) h5
         have k2 : w5.cell? ⟨w0.heap.size, 2, none⟩ = some (.int .u32 (p : Int)) := cell_of_row w5 _ 2 _ _ (0, 0) h5
         have k3 : w5.cell? ⟨w0.heap.size, 3, none⟩ = some (.int .u32 (r : Int)) := cell_of_row w5 _ 3 _ _ (0, 0) h5
         have q0 : w5.cell? ⟨w.heap.size + 1, 0, none⟩ = some (.int .u64 0) := cell_of_row w5 _ 0 _ _ (0, 0) r5
         have q1 : w5.cell? ⟨w.heap.size + 1, 1, none⟩ = some (.int .u64 0) := cell_of_row w5 _ 1 _ _ (0, 0) r5
         have q2 : w5.cell? ⟨w.heap.size + 1, 2, none⟩ = some (.int .u32 0) := cell_of_row w5 _ 2 _ _ (0, 0) r5
         have q3 : w5.cell? ⟨w.heap.size + 1, 3, none⟩ = some (.int .u32 0) := cell_of_row w5 _ 3 _ _ (0, 0) r5
         have z0 : w5.frozen? ⟨w.heap.size + 1, 0, none⟩ = false := frozen_of_row w5 _ 0 _ _ r5
         have z1 : w5.frozen? ⟨w.heap.size + 1, 1, none⟩ = false := frozen_of_row w5 _ 1 _ _ r5
         have z2 : w5.frozen? ⟨w.heap.size + 1, 2, none⟩ = false := frozen_of_row w5 _ 2 _ _ r5
         have z3 : w5.frozen? ⟨w.heap.size + 1, 3, none⟩ = false := frozen_of_row w5 _ 3 _ _ r5
         have D5 := lH b5
         have R5 := lH r5
         have CF5 := lH (CF.out w5.drew b5.drew)
         clear b5 h5 r5 hw5
         go_wp2_with fail
         refine wp_region_held_drew (S := fun W => W.heap[w0.heap.size]? = some (.cells (mkC ⟨x, t, p, r⟩) 137 (0, 0))) (by kernel_rfl) H5.out (fun hHeld => ?_)
         refine tk9 (i := 0) (hy := (yieldsIf_loadG (by rfl) 137 (.tmp 6) rfl ⟨w0.heap.size, 0, none⟩ rfl _ (fun W hW => load_mk hW))) (h := ?_)
         try simp only [aP,aN,aS,aZ,aC]
         refine tk9 (i := 1) (h := ?_)
         try simp only [aP,aN,aS,aZ,aC]
         refine tk9 (i := 2) (h := ?_)
         try simp only [aP,aN,aS,aZ,aC]
         refine tk9 (i := 3) (h := ?_)
         try simp only [aP,aN,aS,aZ,aC]
         refine tk9 (i := 4) (h := ?_)
         try simp only [aP,aN,aS,aZ,aC]
         refine tk9 (i := 5) (hy := (yieldsIf_loadG (by rfl) 30 (.tmp 32) rfl ⟨w0.heap.size, 3, none⟩ rfl _ (fun W hW => load_u32 (cell_of_row W _ 3 _ _ (0, 0) hW)))) (h := ?_)
         try simp only [aP,aN,aS,aZ,aC]
         refine tk9 (i := 6) (h := ?_)
         try simp only [aP,aN,aS,aZ,aC]
         refine rd9 (i := 7) (h := fun K hK => ?_)
         go_simp
         refine CF5.out.mono ?_
         rintro e w7 ⟨rfl, hw7⟩
         subst hw7
         have hS7 := hHeld
         refine hK _ _ hS7 (fun hH7 => ?_)
         clear hK K
         try simp only [aP,aN,aS,aZ,aC]
         refine tk9 (i := 8) (h := ?_)
         try simp only [aP,aN,aS,aZ,aC]
         refine tk9 (i := 9) (h := ?_)
         try simp only [aP,aN,aS,aZ,aC]
         refine tk9 (i := 10) (h := ?_)
         try simp only [aP,aN,aS,aZ,aC]
         refine tk9 (i := 11) (hy := (yieldsIf_loadG (by rfl) 30 (.tmp 38) rfl ⟨w0.heap.size, 2, none⟩ rfl _ (fun W hW => load_u32 (cell_of_row W _ 2 _ _ (0, 0) hW)))) (h := ?_)
         try simp only [aP,aN,aS,aZ,aC]
         refine tk9 (i := 12) (h := ?_)
         try simp only [aP,aN,aS,aZ,aC]
         refine tk9 (i := 13) (hy := (yieldsIf_loadG (by rfl) 30 (.tmp 40) rfl ⟨w0.heap.size, 3, none⟩ rfl _ (fun W hW => load_u32 (cell_of_row W _ 3 _ _ (0, 0) hW)))) (h := ?_)
         try simp only [aP,aN,aS,aZ,aC]
         refine tk9 (i := 14) (h := ?_)
         try simp only [aP,aN,aS,aZ,aC]
         refine tk9 (i := 15) (h := ?_)
         try simp only [aP,aN,aS,aZ,aC]
         refine rd9 (i := 16) (h := fun K hK => ?_)
         refine step_storeM rfl (.tmp 4) (.tmp 28) rfl (w.heap.size + 1) ⟨x, t, p, r⟩ rfl rfl _ R5.out rfl ?_
         refine hK _ _ (by exact (setRow_other w5.drew (w.heap.size + 1) w0.heap.size _ (by omega)).trans H5.out) (fun hH16 => ?_)
         clear hK K
         try simp only [aP,aN,aS,aZ,aC]
         refine tk9 (i := 17) (h := ?_)
         try simp only [aP,aN,aS,aZ,aC]
         refine wpAnyH_done (by kernel_rfl) ?_ _
         go_wp2_with fail
         have R6 : (w5.drew.setRow (w.heap.size + 1) (mkC ⟨x, t, p, r⟩)).heap[w.heap.size + 1]? = some (.cells (mkC ⟨x, t, p, r⟩) 137 (0, 0)) := setRow_heap _ _ _ _ _ _ R5.out
         refine bodyPost_ret (v := .tuple #[.agg (mkC ⟨x, t, p, r⟩), .bool b]) (res_ct (p := 5) (q := 4) (ty := 137) rfl _ _ (w.heap.size + 1) _ _ rfl rfl (load_mk R6)) (by rfl) ?_
         exact ⟨rfl, below_setRow D5.out.drew (by omega) _⟩
     · rw [decide_eq_false (fun hh => ht2 hh.2.2.1)]
       have g3 : decide ((t : Int) < 4611686018427387904) = false := decide_eq_false (by omega)
       have ht2' : ¬ ((t : Int) < 4611686018427387904) := by omega
       have ht0' : (1 : Int) <= (t : Int) := by omega
       clear hx0 ht0 ht2
       go_enter Tryz.func138, Tryz.ntmps138
       go_upto_region 1 with fail
       rw [W0.out]
       go_upto_region 2 with (first
        | (go_at_call 141; refine C1.out.mono ?_; rintro e w1 ⟨rfl, rfl⟩)
        | (go_at_call_of 140 (Value.int .i64 20); refine C4.out.mono ?_; rintro e w1 ⟨rfl, rfl⟩)
        | (go_at_call_of 140 (Value.int .i64 16); refine C3.out.mono ?_; rintro e w1 ⟨rfl, rfl⟩)
        | (go_at_call 140; refine C2.out.mono ?_; rintro e w1 ⟨rfl, rfl⟩))
       generalize hw5 : World.alloc _ _ = w5
       obtain ⟨b5, h5, r5⟩ := B5.out w5 hw5
       have H5 : Hid (w5.drew.heap[w0.heap.size]? = some (.cells (mkC ⟨x, t, p, r⟩) 137 (0, 0))) := lH h5
       have k0 : w5.cell? ⟨w0.heap.size, 0, none⟩ = some (.int .u64 (x : Int)) := cell_of_row w5 _ 0 _ _ (0, 0) h5
       have k1 : w5.cell? ⟨w0.heap.size, 1, none⟩ = some (.int .u64 (t : Int)) := cell_of_row w5 _ 1 _ _ (0, 0) h5
       have k2 : w5.cell? ⟨w0.heap.size, 2, none⟩ = some (.int .u32 (p : Int)) := cell_of_row w5 _ 2 _ _ (0, 0) h5
       have k3 : w5.cell? ⟨w0.heap.size, 3, none⟩ = some (.int .u32 (r : Int)) := cell_of_row w5 _ 3 _ _ (0, 0) h5
       have q0 : w5.cell? ⟨w.heap.size + 1, 0, none⟩ = some (.int .u64 0) := cell_of_row w5 _ 0 _ _ (0, 0) r5
       have q1 : w5.cell? ⟨w.heap.size + 1, 1, none⟩ = some (.int .u64 0) := cell_of_row w5 _ 1 _ _ (0, 0) r5
       have q2 : w5.cell? ⟨w.heap.size + 1, 2, none⟩ = some (.int .u32 0) := cell_of_row w5 _ 2 _ _ (0, 0) r5
       have q3 : w5.cell? ⟨w.heap.size + 1, 3, none⟩ = some (.int .u32 0) := cell_of_row w5 _ 3 _ _ (0, 0) r5
       have z0 : w5.frozen? ⟨w.heap.size + 1, 0, none⟩ = false := frozen_of_row w5 _ 0 _ _ r5
       have z1 : w5.frozen? ⟨w.heap.size + 1, 1, none⟩ = false := frozen_of_row w5 _ 1 _ _ r5
       have z2 : w5.frozen? ⟨w.heap.size + 1, 2, none⟩ = false := frozen_of_row w5 _ 2 _ _ r5
       have z3 : w5.frozen? ⟨w.heap.size + 1, 3, none⟩ = false := frozen_of_row w5 _ 3 _ _ r5
       have D5 := lH b5
       have R5 := lH r5
       have CF5 := lH (CF.out w5.drew b5.drew)
       clear b5 h5 r5 hw5
       go_wp2_with fail
       go_region
       go_wp2_with fail
       have R6 := four_mk (k := ⟨x, t, p, r⟩) R5.out
       refine bodyPost_ret (v := .tuple #[.agg (mkC ⟨x, t, p, r⟩), .bool false]) (res_ct (p := 5) (q := 4) (ty := 137) rfl _ _ (w.heap.size + 1) _ _ rfl rfl (load_mk (by exact R6))) (by rfl) ?_
       exact ⟨rfl, ((((D5.out.setCell (p := ⟨w.heap.size + 1, 0, none⟩) (by show _ <= w.heap.size + 1; omega) _).setCell (p := ⟨w.heap.size + 1, 1, none⟩) (by show _ <= w.heap.size + 1; omega) _).setCell (p := ⟨w.heap.size + 1, 2, none⟩) (by show _ <= w.heap.size + 1; omega) _).setCell (p := ⟨w.heap.size + 1, 3, none⟩) (by show _ <= w.heap.size + 1; omega) _).drew⟩
   · rw [decide_eq_false (fun hh => ht0 hh.2.1)]
     have g2 : decide ((1 : Int) <= (t : Int)) = false := decide_eq_false (by omega)
     clear hx0 ht0
     go_enter Tryz.func138, Tryz.ntmps138
     go_upto_region 1 with fail
     rw [W0.out]
     go_upto_region 2 with (first
      | (go_at_call 141; refine C1.out.mono ?_; rintro e w1 ⟨rfl, rfl⟩)
      | (go_at_call_of 140 (Value.int .i64 20); refine C4.out.mono ?_; rintro e w1 ⟨rfl, rfl⟩)
      | (go_at_call_of 140 (Value.int .i64 16); refine C3.out.mono ?_; rintro e w1 ⟨rfl, rfl⟩)
      | (go_at_call 140; refine C2.out.mono ?_; rintro e w1 ⟨rfl, rfl⟩))
     generalize hw5 : World.alloc _ _ = w5
     obtain ⟨b5, h5, r5⟩ := B5.out w5 hw5
     have H5 : Hid (w5.drew.heap[w0.heap.size]? = some (.cells (mkC ⟨x, t, p, r⟩) 137 (0, 0))) := lH h5
     have k0 : w5.cell? ⟨w0.heap.size, 0, none⟩ = some (.int .u64 (x : Int)) := cell_of_row w5 _ 0 _ _ (0, 0) h5
     have k1 : w5.cell? ⟨w0.heap.size, 1, none⟩ = some (.int .u64 (t : Int)) := cell_of_row w5 _ 1 _ _ (0, 0) h5
     have k2 : w5.cell? ⟨w0.heap.size, 2, none⟩ = some (.int .u32 (p : Int)) := cell_of_row w5 _ 2 _ _ (0, 0) h5
     have k3 : w5.cell? ⟨w0.heap.size, 3, none⟩ = some (.int .u32 (r : Int)) := cell_of_row w5 _ 3 _ _ (0, 0) h5
     have q0 : w5.cell? ⟨w.heap.size + 1, 0, none⟩ = some (.int .u64 0) := cell_of_row w5 _ 0 _ _ (0, 0) r5
     have q1 : w5.cell? ⟨w.heap.size + 1, 1, none⟩ = some (.int .u64 0) := cell_of_row w5 _ 1 _ _ (0, 0) r5
     have q2 : w5.cell? ⟨w.heap.size + 1, 2, none⟩ = some (.int .u32 0) := cell_of_row w5 _ 2 _ _ (0, 0) r5
     have q3 : w5.cell? ⟨w.heap.size + 1, 3, none⟩ = some (.int .u32 0) := cell_of_row w5 _ 3 _ _ (0, 0) r5
     have z0 : w5.frozen? ⟨w.heap.size + 1, 0, none⟩ = false := frozen_of_row w5 _ 0 _ _ r5
     have z1 : w5.frozen? ⟨w.heap.size + 1, 1, none⟩ = false := frozen_of_row w5 _ 1 _ _ r5
     have z2 : w5.frozen? ⟨w.heap.size + 1, 2, none⟩ = false := frozen_of_row w5 _ 2 _ _ r5
     have z3 : w5.frozen? ⟨w.heap.size + 1, 3, none⟩ = false := frozen_of_row w5 _ 3 _ _ r5
     have D5 := lH b5
     have R5 := lH r5
     have CF5 := lH (CF.out w5.drew b5.drew)
     clear b5 h5 r5 hw5
     go_wp2_with fail
     go_region
     go_wp2_with fail
     have R6 := four_mk (k := ⟨x, t, p, r⟩) R5.out
     refine bodyPost_ret (v := .tuple #[.agg (mkC ⟨x, t, p, r⟩), .bool false]) (res_ct (p := 5) (q := 4) (ty := 137) rfl _ _ (w.heap.size + 1) _ _ rfl rfl (load_mk (by exact R6))) (by rfl) ?_
     exact ⟨rfl, ((((D5.out.setCell (p := ⟨w.heap.size + 1, 0, none⟩) (by show _ <= w.heap.size + 1; omega) _).setCell (p := ⟨w.heap.size + 1, 1, none⟩) (by show _ <= w.heap.size + 1; omega) _).setCell (p := ⟨w.heap.size + 1, 2, none⟩) (by show _ <= w.heap.size + 1; omega) _).setCell (p := ⟨w.heap.size + 1, 3, none⟩) (by show _ <= w.heap.size + 1; omega) _).drew⟩
end
end Go.Proofs.YthoebjekkfhhgaaGreat
