/-
  Own work.
-/
import Derived.Test.YthoebjekkfhhgaaGreatCp9
import Derived.Test.YthoebjekkfhhgaaGreatG1
import Derived.Deep.QuietTactic
import Derived.BigQuiet
import Derived.BigRegion
import Derived.Deep.RegionWith
import Derived.Lib.EndianBits
import Derived.Laws.BitsAllLaws
import Derived.Great.BuildSlice
import Derived.Laws.CopyOwn
import Derived.WalkSmall
import Derived.Test.YthoebjekkfhhgaaGreatIi
import Derived.Deep.RegionHeld3
import Derived.IntWalk
import Derived.ChangeKeysEq
import Derived.DeepKeys
import Derived.Maps.AppendAt
set_option linter.unusedVariables false
set_option linter.unusedSimpArgs false
set_option maxRecDepth 100000
set_option maxHeartbeats 8000000
namespace Go.Proofs.YthoebjekkfhhgaaGreat
open Go.RowKit
def rotr (n x : Nat) : Nat := x / 2 ^ n + x % 2 ^ n * 2 ^ (32 - n)
theorem rotr_zero (x : Nat) : rotr 0 x = x := by simp [rotr, Nat.mod_one]
theorem two_pow_split (i : Nat) (h : i < 32) : 2 ^ i * 2 ^ (31 - i) = 2147483648 /\ 2 ^ (32 - i) = 2 * 2 ^ (31 - i) := by
 constructor
 · rw [<- Nat.pow_add, show i + (31 - i) = 31 by omega]
 · rw [show 32 - i = (31 - i) + 1 by omega, Nat.pow_succ, Nat.mul_comm]
theorem rotr_step (i x : Nat) (h : i < 32) : rotr (i + 1) x = rotr i x / 2 + rotr i x % 2 * 2147483648 := by
 obtain ⟨h1, h2⟩ := two_pow_split i h
 unfold rotr
 rw [h2, show 32 - (i + 1) = 31 - i by omega, Nat.pow_succ, <- Nat.div_div_eq_div_mul, Nat.mod_mul]
 generalize 2 ^ i = P at *
 generalize 2 ^ (31 - i) = Q at *
 generalize x / P = a
 generalize x % P = r
 have e1 : r * (2 * Q) = 2 * (r * Q) := by rw [Nat.mul_left_comm]
 have e2 : (r + P * (a % 2)) * Q = r * Q + a % 2 * 2147483648 := by
  rw [Nat.add_mul, <- h1, Nat.mul_right_comm P, Nat.mul_comm (P * Q)]
 rw [e1, e2]
 generalize r * Q = z
 omega
theorem rotr_lt (n x : Nat) (hn : n <= 32) (hx : x < 4294967296) : rotr n x < 4294967296 := by
 induction n with
 | zero => rw [rotr_zero]; exact hx
 | succ n ih =>
   have := ih (by omega)
   rw [rotr_step n x (by omega)]
   omega
theorem rotr_or (n x : Nat) (hn : n <= 32) (hx : x < 4294967296) : x / 2 ^ n ||| x * 2 ^ (32 - n) % 4294967296 = rotr n x := by
 have hP : 2 ^ n * 2 ^ (32 - n) = 4294967296 := by rw [<- Nat.pow_add, show n + (32 - n) = 32 by omega]
 have hq : 0 < 2 ^ (32 - n) := Nat.two_pow_pos _
 have hlt : x / 2 ^ n < 2 ^ (32 - n) := by
  rw [Nat.div_lt_iff_lt_mul (Nat.two_pow_pos _), Nat.mul_comm, hP]; exact hx
 have hm : x * 2 ^ (32 - n) % 4294967296 = 2 ^ (32 - n) * (x % 2 ^ n) := by
  rw [<- hP, Nat.mul_mod_mul_right, Nat.mul_comm]
 rw [hm, Nat.or_comm, <- Nat.two_pow_add_eq_or_of_lt hlt]
 unfold rotr
 rw [Nat.mul_comm (x % 2 ^ n), Nat.add_comm]
def wordsV (l : List Nat) : Array Value := (l.map fun (x : Nat) => Value.int .u64 (x : Int)).toArray
def Wd (w : World) (g : Nat) (t : TypeId) (l : List Nat) : Prop := w.heap[g]? = some (.cells (wordsV l) t (0, 0))
theorem Wd.cell {w : World} {g i x : Nat} {t : TypeId} {l : List Nat} (h : Wd w g t l) (hx : l[i]? = some x) : w.cell? ⟨g, i, none⟩ = some (.int .u64 (x : Int)) := by
 rw [cell_of_row w g i _ t (0, 0) h]
 simp [wordsV, hx]
theorem Wd.frozen {w : World} {g : Nat} {t : TypeId} {l : List Nat} (h : Wd w g t l) (i : Nat) : w.frozen? ⟨g, i, none⟩ = false := frozen_of_row w g i _ t h
theorem Wd.set_ {w : World} {g i x : Nat} {t : TypeId} {l : List Nat} {y : Int} (h : Wd w g t l) (hy : y = (x : Int)) : Wd (w.setCell ⟨g, i, none⟩ (.int .u64 y)) g t (l.set i x) := by
 subst hy
 have := heap_setCell_same w g i _ t (.int .u64 (x : Int)) h
 unfold Wd
 rw [this]
 congr 2
 simp [wordsV, List.map_set]
theorem Wd.new (w : World) (l : List Nat) (t : TypeId) : Wd (w.alloc (.cells (wordsV l) t)) w.heap.size t l := heap_alloc_new w _
theorem Wd.lt {w : World} {g : Nat} {t : TypeId} {l : List Nat} (h : Wd w g t l) : g < w.heap.size := (Array.getElem?_eq_some_iff.1 h).1
theorem Wd.alloc {w : World} {g : Nat} {t : TypeId} {l : List Nat} (h : Wd w g t l) (o : Obj) : Wd (w.alloc o) g t l := (Below.heap_alloc w o g h.lt).trans h
theorem Wd.far {w : World} {g : Nat} {t : TypeId} {l : List Nat} (h : Wd w g t l) {p : Addr} (hp : g ≠ p.block) (u : Value) : Wd (w.setCell p u) g t l := (heap_setCell_other w p g u hp).trans h
theorem Wd.drewN {w : World} {g : Nat} {t : TypeId} {l : List Nat} (h : Wd w g t l) (n : Nat) : Wd (w.drewN n) g t l := h
theorem Wd.row {w : World} {g : Nat} {t : TypeId} {l m : List Nat} (h : Wd w g t l) : Wd (w.setRow g (wordsV m)) g t m := setRow_heap w g _ _ t _ h
theorem Wd.rowFar {w : World} {g g' : Nat} {t : TypeId} {l : List Nat} (h : Wd w g t l) (hne : g ≠ g') (cs : Array Value) : Wd (w.setRow g' cs) g t l := (setRow_other w g' g cs hne).trans h
def s0 (x : Nat) : Nat := rotr 7 x ^^^ rotr 18 x ^^^ x / 2 ^ 3
def s1 (x : Nat) : Nat := rotr 17 x ^^^ rotr 19 x ^^^ x / 2 ^ 10
def schedW (w : List Nat) (i : Nat) : Nat := (w.getD (i - 16) 0 + s0 (w.getD (i - 15) 0) + w.getD (i - 7) 0 + s1 (w.getD (i - 2) 0)) % 4294967296
def schedN (w : List Nat) : Nat -> List Nat
 | 0 => w
 | j + 1 => (schedN w j).set (16 + j) (schedW (schedN w j) (16 + j))
def Small (l : List Nat) : Prop := ∀ x ∈ l, x < 4294967296
theorem schedN_len (w : List Nat) : ∀ j, (schedN w j).length = w.length
 | 0 => rfl
 | j + 1 => by rw [schedN, List.length_set, schedN_len w j]
theorem Small.set_ {l : List Nat} {i x : Nat} (h : Small l) (hx : x < 4294967296) : Small (l.set i x) := by
 intro y hy
 rcases List.mem_or_eq_of_mem_set hy with h1 | rfl
 · exact h y h1
 · exact hx
theorem schedN_small (w : List Nat) (h : Small w) : ∀ j, Small (schedN w j)
 | 0 => h
 | j + 1 => (schedN_small w h j).set_ (Nat.mod_lt _ (by omega))
theorem Small.at_ {l : List Nat} {i x : Nat} (h : Small l) (hx : l[i]? = some x) : x < 4294967296 := h x (List.mem_of_getElem? hx)
theorem word_at (l : List Nat) (i : Nat) (h : i < l.length) : ∃ x, l[i]? = some x /\ l.getD i 0 = x := ⟨l[i], List.getElem?_eq_getElem h, by simp [List.getD, h]⟩
theorem xor_lt32 {a b : Nat} (ha : a < 4294967296) (hb : b < 4294967296) : a ^^^ b < 4294967296 := Nat.xor_lt_two_pow (n := 32) ha hb
theorem s0_lt (x : Nat) (hx : x < 4294967296) : s0 x < 4294967296 := xor_lt32 (xor_lt32 (rotr_lt 7 x (by omega) hx) (rotr_lt 18 x (by omega) hx)) (by omega)
theorem s1_lt (x : Nat) (hx : x < 4294967296) : s1 x < 4294967296 := xor_lt32 (xor_lt32 (rotr_lt 17 x (by omega) hx) (rotr_lt 19 x (by omega) hx)) (by omega)
def S0 (a : Nat) : Nat := rotr 2 a ^^^ rotr 13 a ^^^ rotr 22 a
def S1 (e : Nat) : Nat := rotr 6 e ^^^ rotr 11 e ^^^ rotr 25 e
def chS (e f g : Nat) : Nat := (e &&& f) ^^^ ((4294967295 - e) &&& g)
def majS (a b c : Nat) : Nat := (a &&& b) ^^^ (a &&& c) ^^^ (b &&& c)
def tS (e f g h k x : Nat) : Nat := h + S1 e + chS e f g + k + x
def roundS (v : List Nat) (k x : Nat) : List Nat :=
 match v with
 | [a, b, c, d, e, f, g, h] => [(tS e f g h k x + S0 a + majS a b c) % 4294967296, a, b, c, (d + tS e f g h k x) % 4294967296, e, f, g]
 | _ => v
def roundN (v k x : List Nat) : Nat -> List Nat
 | 0 => v
 | j + 1 => roundS (roundN v k x j) (k.getD j 0) (x.getD j 0)
theorem eight {v : List Nat} (h : v.length = 8) : ∃ a b c d e f g i, v = [a, b, c, d, e, f, g, i] := by
 match v, h with
 | [a, b, c, d, e, f, g, i], _ => exact ⟨a, b, c, d, e, f, g, i, rfl⟩
theorem roundN_len (v k x : List Nat) (h : v.length = 8) : ∀ j, (roundN v k x j).length = 8
 | 0 => h
 | j + 1 => by
   obtain ⟨a, b, c, d, e, f, g, i, hv⟩ := eight (roundN_len v k x h j)
   rw [roundN, hv]; rfl
theorem roundN_small (v k x : List Nat) (h : v.length = 8) (hs : Small v) : ∀ j, Small (roundN v k x j)
 | 0 => hs
 | j + 1 => by
   have ih := roundN_small v k x h hs j
   obtain ⟨a, b, c, d, e, f, g, i, hv⟩ := eight (roundN_len v k x h j)
   rw [hv] at ih
   rw [roundN, hv]
   intro y hy
   simp only [roundS, List.mem_cons, List.not_mem_nil, or_false] at hy
   rcases hy with rfl | rfl | rfl | rfl | rfl | rfl | rfl | rfl
   · exact Nat.mod_lt _ (by omega)
   · exact ih _ (by simp)
   · exact ih _ (by simp)
   · exact ih _ (by simp)
   · exact Nat.mod_lt _ (by omega)
   · exact ih _ (by simp)
   · exact ih _ (by simp)
   · exact ih _ (by simp)
theorem and_lt32 {a b : Nat} (ha : a < 4294967296) : a &&& b < 4294967296 := Nat.lt_of_le_of_lt Nat.and_le_left ha
theorem S1_lt (x : Nat) (hx : x < 4294967296) : S1 x < 4294967296 := xor_lt32 (xor_lt32 (rotr_lt 6 x (by omega) hx) (rotr_lt 11 x (by omega) hx)) (rotr_lt 25 x (by omega) hx)
theorem S0_lt (x : Nat) (hx : x < 4294967296) : S0 x < 4294967296 := xor_lt32 (xor_lt32 (rotr_lt 2 x (by omega) hx) (rotr_lt 13 x (by omega) hx)) (rotr_lt 22 x (by omega) hx)
theorem ch_lt (e f g : Nat) (he : e < 4294967296) : chS e f g < 4294967296 := xor_lt32 (and_lt32 he) (and_lt32 (by omega))
theorem maj_lt (a b c : Nat) (ha : a < 4294967296) (hb : b < 4294967296) : majS a b c < 4294967296 := xor_lt32 (xor_lt32 (and_lt32 ha) (and_lt32 ha)) (and_lt32 hb)
def addW (h v : List Nat) : Nat -> List Nat
 | 0 => h
 | j + 1 => (addW h v j).set j ((h.getD j 0 + v.getD j 0) % 4294967296)
def BlkR (w wr : World) (h ws k z : List Nat) : Prop :=
 Wd wr w.heap.size 229 h /\ Wd wr (w.heap.size + 1) 227 ws /\ Wd wr (w.heap.size + 1 + 1) 227 k /\ Wd wr (w.heap.size + 1 + 1 + 1) 229 z /\ Below w.heap.size w wr
theorem BlkR.put {w wr : World} {h ws k z : List Nat} (b : BlkR w wr h ws k z) {g : Nat} (hg : w.heap.size + 1 + 1 + 1 < g) (i : Nat) (u : Value) : BlkR w (wr.setCell ⟨g, i, none⟩ u) h ws k z := by
 obtain ⟨h0, h1, h2, h3, hb⟩ := b
 exact ⟨h0.far (show w.heap.size ≠ g by omega) _, h1.far (show w.heap.size + 1 ≠ g by omega) _, h2.far (show w.heap.size + 1 + 1 ≠ g by omega) _, h3.far (show w.heap.size + 1 + 1 + 1 ≠ g by omega) _, hb.setCell (p := ⟨g, i, none⟩) (show w.heap.size <= g by omega) _⟩
theorem BlkR.drewN {w wr : World} {h ws k z : List Nat} (b : BlkR w wr h ws k z) (n : Nat) : BlkR w (wr.drewN n) h ws k z :=
 ⟨b.1, b.2.1, b.2.2.1, b.2.2.2.1, b.2.2.2.2.os, b.2.2.2.2.tape, b.2.2.2.2.output, b.2.2.2.2.size, b.2.2.2.2.block⟩
theorem addW_len (h v : List Nat) : ∀ j, (addW h v j).length = h.length
 | 0 => rfl
 | j + 1 => by rw [addW, List.length_set, addW_len h v j]
def blockS (h ws k : List Nat) : List Nat := addW h (roundN h k (schedN ws 48) 64) 8
def RetQs (w : World) (v : Value) (e : Ending) (w' : World) : Prop := e = .returned v /\ ∃ k, w' = w.drewN k
theorem rotate_any (x n : Nat) (w : World) (hx : x < 4294967296) (hn : n <= 32) :
 Calls Tryz.prog 196 #[.int .u32 (x : Int), .int .i64 (n : Int)] w (RetQs w (.int .u32 ((rotr n x : Nat) : Int))) := by
 have hr := rotr_or n x hn hx
 have hR : bits .or .u32 ((x : Int) / 2 ^ n) ((x : Int) * 2 ^ (32 - n) % 4294967296) = ((rotr n x : Nat) : Int) := by
  have e1 : ((x : Int) / 2 ^ n) = ((x / 2 ^ n : Nat) : Int) := by simp
  have e2 : ((x : Int) * 2 ^ (32 - n) % 4294967296) = ((x * 2 ^ (32 - n) % 4294967296 : Nat) : Int) := by simp
  rw [e1, e2, u32_or_nat _ _ (Nat.lt_of_le_of_lt (Nat.div_le_self _ _) hx) (Nat.mod_lt _ (by omega)), hr]
 have HR := lH hR
 clear hr hR
 go_enter Tryz.func196, Tryz.ntmps196
 go_wp2_with fail
 go_quiet (fail)
 go_wp2_with fail
 go_ret
 exact ⟨congrArg (fun z => Ending.returned (Value.int .u32 z)) HR.out, _, rfl⟩
theorem xor32 (a b : Nat) (ha : a < 4294967296) (hb : b < 4294967296) : bits .xor .u32 (a : Int) (b : Int) = ((a ^^^ b : Nat) : Int) := u32_xor_nat a b ha hb
theorem and32 (a b : Nat) (ha : a < 4294967296) (hb : b < 4294967296) : bits .and .u32 (a : Int) (b : Int) = ((a &&& b : Nat) : Int) := u32_and_nat a b ha hb
theorem upper0_any (x : Nat) (w : World) (hx : x < 4294967296) :
 Calls Tryz.prog 190 #[.int .u32 (x : Int)] w (RetQs w (.int .u32 ((S0 x : Nat) : Int))) := by
 have h1 := rotr_lt 2 x (by omega) hx
 have h2 := rotr_lt 13 x (by omega) hx
 have h3 := rotr_lt 22 x (by omega) hx
 have hR : bits .xor .u32 (bits .xor .u32 ((rotr 2 x : Nat) : Int) ((rotr 13 x : Nat) : Int)) ((rotr 22 x : Nat) : Int) = ((S0 x : Nat) : Int) := by
  rw [xor32 _ _ h1 h2, xor32 _ _ (xor_lt32 h1 h2) h3]; rfl
 have HR := lH hR
 clear hR
 go_enter Tryz.func190, Tryz.ntmps190
 go_wp2_with (first
  | (go_at_call_of 196 (Value.int IntKind.i64 2); refine (rotate_any _ 2 _ hx (by omega)).mono ?_; rintro e w' ⟨rfl, k1, rfl⟩)
  | (go_at_call_of 196 (Value.int IntKind.i64 13); refine (rotate_any _ 13 _ hx (by omega)).mono ?_; rintro e w' ⟨rfl, k2, rfl⟩)
  | (go_at_call_of 196 (Value.int IntKind.i64 22); refine (rotate_any _ 22 _ hx (by omega)).mono ?_; rintro e w' ⟨rfl, k3, rfl⟩))
 go_ret
 exact ⟨congrArg (fun z => Ending.returned (Value.int .u32 z)) HR.out, k1 + k2 + k3, by simp⟩
theorem upper1_any (x : Nat) (w : World) (hx : x < 4294967296) :
 Calls Tryz.prog 188 #[.int .u32 (x : Int)] w (RetQs w (.int .u32 ((S1 x : Nat) : Int))) := by
 have h1 := rotr_lt 6 x (by omega) hx
 have h2 := rotr_lt 11 x (by omega) hx
 have h3 := rotr_lt 25 x (by omega) hx
 have hR : bits .xor .u32 (bits .xor .u32 ((rotr 6 x : Nat) : Int) ((rotr 11 x : Nat) : Int)) ((rotr 25 x : Nat) : Int) = ((S1 x : Nat) : Int) := by
  rw [xor32 _ _ h1 h2, xor32 _ _ (xor_lt32 h1 h2) h3]; rfl
 have HR := lH hR
 clear hR
 go_enter Tryz.func188, Tryz.ntmps188
 go_wp2_with (first
  | (go_at_call_of 196 (Value.int IntKind.i64 6); refine (rotate_any _ 6 _ hx (by omega)).mono ?_; rintro e w' ⟨rfl, k1, rfl⟩)
  | (go_at_call_of 196 (Value.int IntKind.i64 11); refine (rotate_any _ 11 _ hx (by omega)).mono ?_; rintro e w' ⟨rfl, k2, rfl⟩)
  | (go_at_call_of 196 (Value.int IntKind.i64 25); refine (rotate_any _ 25 _ hx (by omega)).mono ?_; rintro e w' ⟨rfl, k3, rfl⟩))
 go_ret
 exact ⟨congrArg (fun z => Ending.returned (Value.int .u32 z)) HR.out, k1 + k2 + k3, by simp⟩
theorem lower0_any (x : Nat) (w : World) (hx : x < 4294967296) :
 Calls Tryz.prog 194 #[.int .u32 (x : Int)] w (RetQs w (.int .u32 ((s0 x : Nat) : Int))) := by
 have h1 := rotr_lt 7 x (by omega) hx
 have h2 := rotr_lt 18 x (by omega) hx
 have hR : bits .xor .u32 (bits .xor .u32 ((rotr 7 x : Nat) : Int) ((rotr 18 x : Nat) : Int)) ((x : Int) / 8) = ((s0 x : Nat) : Int) := by
  rw [show ((x : Int) / 8) = ((x / 8 : Nat) : Int) by omega, xor32 _ _ h1 h2, xor32 _ _ (xor_lt32 h1 h2) (by omega)]; rfl
 have HR := lH hR
 clear hR
 go_enter Tryz.func194, Tryz.ntmps194
 go_wp2_with (first
  | (go_at_call_of 196 (Value.int IntKind.i64 7); refine (rotate_any _ 7 _ hx (by omega)).mono ?_; rintro e w' ⟨rfl, k1, rfl⟩)
  | (go_at_call_of 196 (Value.int IntKind.i64 18); refine (rotate_any _ 18 _ hx (by omega)).mono ?_; rintro e w' ⟨rfl, k2, rfl⟩))
 go_ret
 exact ⟨congrArg (fun z => Ending.returned (Value.int .u32 z)) HR.out, k1 + k2, by simp⟩
theorem lower1_any (x : Nat) (w : World) (hx : x < 4294967296) :
 Calls Tryz.prog 195 #[.int .u32 (x : Int)] w (RetQs w (.int .u32 ((s1 x : Nat) : Int))) := by
 have h1 := rotr_lt 17 x (by omega) hx
 have h2 := rotr_lt 19 x (by omega) hx
 have hR : bits .xor .u32 (bits .xor .u32 ((rotr 17 x : Nat) : Int) ((rotr 19 x : Nat) : Int)) ((x : Int) / 1024) = ((s1 x : Nat) : Int) := by
  rw [show ((x : Int) / 1024) = ((x / 1024 : Nat) : Int) by omega, xor32 _ _ h1 h2, xor32 _ _ (xor_lt32 h1 h2) (by omega)]; rfl
 have HR := lH hR
 clear hR
 go_enter Tryz.func195, Tryz.ntmps195
 go_wp2_with (first
  | (go_at_call_of 196 (Value.int IntKind.i64 17); refine (rotate_any _ 17 _ hx (by omega)).mono ?_; rintro e w' ⟨rfl, k1, rfl⟩)
  | (go_at_call_of 196 (Value.int IntKind.i64 19); refine (rotate_any _ 19 _ hx (by omega)).mono ?_; rintro e w' ⟨rfl, k2, rfl⟩))
 go_ret
 exact ⟨congrArg (fun z => Ending.returned (Value.int .u32 z)) HR.out, k1 + k2, by simp⟩
theorem not32 (e : Nat) (he : e < 4294967296) : 4294967295 ^^^ e = 4294967295 - e := by
 apply Nat.eq_of_testBit_eq
 intro i
 have h := Nat.testBit_two_pow_sub_succ (n := 32) (x := e) he i
 rw [show 4294967295 - e = 2 ^ 32 - (e + 1) by omega, h, Nat.testBit_xor, show 4294967295 = 2 ^ 32 - 1 by rfl, Nat.testBit_two_pow_sub_one]
 by_cases hi : i < 32
 · simp [hi]
 · have : e.testBit i = false := Nat.testBit_lt_two_pow (Nat.lt_of_lt_of_le he (Nat.pow_le_pow_right (n := 2) (by omega) (show 32 <= i by omega)))
   simp [hi, this]
theorem choose_any (e f g : Nat) (w : World) (he : e < 4294967296) (hf : f < 4294967296) (hg : g < 4294967296) :
 Calls Tryz.prog 189 #[.int .u32 (e : Int), .int .u32 (f : Int), .int .u32 (g : Int)] w fun e' w' => e' = .returned (.int .u32 ((chS e f g : Nat) : Int)) /\ w = w' := by
 have hR : bits .xor .u32 (bits .and .u32 (e : Int) (f : Int)) (bits .and .u32 (bits .xor .u32 IntKind.u32.max (e : Int)) (g : Int)) = ((chS e f g : Nat) : Int) := by
  have q : bits .xor .u32 IntKind.u32.max (e : Int) = ((4294967295 - e : Nat) : Int) := by
   rw [show IntKind.u32.max = ((4294967295 : Nat) : Int) from rfl, xor32 _ _ (by omega) he, not32 e he]
  rw [q, and32 _ _ he hf, and32 _ _ (by omega) hg, xor32 _ _ (and_lt32 he) (and_lt32 (by omega))]
  rfl
 have HR := lH hR
 clear hR
 go_enter Tryz.func189, Tryz.ntmps189
 go_wp2_with fail
 go_ret
 exact ⟨congrArg (fun z => Ending.returned (Value.int .u32 z)) HR.out, rfl⟩
theorem majority_any (a b c : Nat) (w : World) (ha : a < 4294967296) (hb : b < 4294967296) (hc : c < 4294967296) :
 Calls Tryz.prog 191 #[.int .u32 (a : Int), .int .u32 (b : Int), .int .u32 (c : Int)] w fun e' w' => e' = .returned (.int .u32 ((majS a b c : Nat) : Int)) /\ w = w' := by
 have hR : bits .xor .u32 (bits .xor .u32 (bits .and .u32 (a : Int) (b : Int)) (bits .and .u32 (a : Int) (c : Int))) (bits .and .u32 (b : Int) (c : Int)) = ((majS a b c : Nat) : Int) := by
  rw [and32 _ _ ha hb, and32 _ _ ha hc, and32 _ _ hb hc, xor32 _ _ (and_lt32 ha) (and_lt32 ha), xor32 _ _ (xor_lt32 (and_lt32 ha) (and_lt32 ha)) (and_lt32 hb)]
  rfl
 have HR := lH hR
 clear hR
 go_enter Tryz.func191, Tryz.ntmps191
 go_wp2_with fail
 go_ret
 exact ⟨congrArg (fun z => Ending.returned (Value.int .u32 z)) HR.out, rfl⟩
def wordB (b : List UInt8) (k : Nat) : Nat := (((b.getD k 0).toNat * 256 + (b.getD (k + 1) 0).toNat) * 256 + (b.getD (k + 2) 0).toNat) * 256 + (b.getD (k + 3) 0).toNat
theorem byte_at (l : List UInt8) (i : Nat) (h : i < l.length) : ∃ x, l[i]? = some x /\ l.getD i 0 = x := ⟨l[i], List.getElem?_eq_getElem h, by simp [List.getD, h]⟩
theorem wordB_lt (b : List UInt8) (k : Nat) : wordB b k < 4294967296 := by
 have := (b.getD k 0).toNat_lt
 have := (b.getD (k + 1) 0).toNat_lt
 have := (b.getD (k + 2) 0).toNat_lt
 have := (b.getD (k + 3) 0).toNat_lt
 unfold wordB
 omega
theorem or_add (k a b : Nat) (h : b < 2 ^ k) : a * 2 ^ k ||| b = a * 2 ^ k + b := by
 have := Nat.two_pow_add_eq_or_of_lt h a
 rw [Nat.mul_comm]
 exact this.symm
theorem or4 (a b c d : Nat) (ha : a < 256) (hb : b < 256) (hc : c < 256) (hd : d < 256) :
 bits .or .u32 (bits .or .u32 (bits .or .u32 ((a : Int) * 16777216) ((b : Int) * 65536)) ((c : Int) * 256)) (d : Int) = ((((a * 256 + b) * 256 + c) * 256 + d : Nat) : Int) := by
 have e1 : ((a : Int) * 16777216) = ((a * 16777216 : Nat) : Int) := by omega
 have e2 : ((b : Int) * 65536) = ((b * 65536 : Nat) : Int) := by omega
 have e3 : ((c : Int) * 256) = ((c * 256 : Nat) : Int) := by omega
 have o1 := or_add 24 a (b * 65536) (by omega)
 have o2 := or_add 16 (a * 256 + b) (c * 256) (by omega)
 have o3 := or_add 8 ((a * 256 + b) * 256 + c) d (by omega)
 simp only [Nat.reducePow] at o1 o2 o3
 rw [e1, e2, e3, u32_or_nat _ _ (by omega) (by omega), o1, show a * 16777216 + b * 65536 = (a * 256 + b) * 65536 by omega, u32_or_nat _ _ (by omega) (by omega), o2,
  show (a * 256 + b) * 65536 + c * 256 = ((a * 256 + b) * 256 + c) * 256 by omega, u32_or_nat _ _ (by omega) (by omega), o3]
theorem word_any (b : List UInt8) (k : Nat) (w : World) (hb : b.length = 64) (hk : k + 3 < 64) :
 Calls Tryz.prog 193 #[.agg (cellsB b).toArray, .int .i64 (k : Int)] w fun e w' => e = .returned (.int .u32 ((wordB b k : Nat) : Int)) /\ Below w.heap.size w w' := by
 obtain ⟨x0, a0, b0⟩ := byte_at b k (by omega)
 obtain ⟨x1, a1, b1⟩ := byte_at b (k + 1) (by omega)
 obtain ⟨x2, a2, b2⟩ := byte_at b (k + 2) (by omega)
 obtain ⟨x3, a3, b3⟩ := byte_at b (k + 3) (by omega)
 have hrow := HasB.row w b 252
 have c : ∀ i x, b[i]? = some x -> (w.alloc (.cells (cellsB b).toArray 252)).cell? ⟨w.heap.size, i, none⟩ = some (.int .u8 (x.toNat : Int)) := by
  intro i x hx
  obtain ⟨g, o, e, _, hc⟩ := hrow.2 (by omega)
  simp only [Option.some.injEq, Addr.mk.injEq, and_true] at e
  obtain ⟨rfl, rfl⟩ := e
  have := hc i x hx
  simpa using this
 have c0 := c _ _ a0
 have c1 := c _ _ a1
 have c2 := c _ _ a2
 have c3 := c _ _ a3
 have l0 : x0.toNat < 256 := x0.toNat_lt
 have l1 : x1.toNat < 256 := x1.toNat_lt
 have l2 : x2.toNat < 256 := x2.toNat_lt
 have l3 : x3.toNat < 256 := x3.toNat_lt
 have hv : wordB b k = ((x0.toNat * 256 + x1.toNat) * 256 + x2.toNat) * 256 + x3.toNat := by unfold wordB; rw [b0, b1, b2, b3]
 have HV := lH hv
 clear hrow c a0 a1 a2 a3 b0 b1 b2 b3 hv hb
 go_enter Tryz.func193, Tryz.ntmps193
 go_wp2_with fail
 go_quiet (fail)
 go_wp2_with fail
 go_ret
 exact ⟨congrArg (fun z => Ending.returned (Value.int .u32 z)) (by rw [HV.out]; exact or4 x0.toNat x1.toNat x2.toNat x3.toNat l0 l1 l2 l3), below_drewN ((Below.refl _ _).alloc (Nat.le_refl _) _) _⟩
def wordsW (l : List Nat) : Array Value := (l.map fun (x : Nat) => Value.int .u32 (x : Int)).toArray
def Ww (w : World) (g : Nat) (t : TypeId) (l : List Nat) : Prop := w.heap[g]? = some (.cells (wordsW l) t (0, 0))
theorem Ww.cell {w : World} {g i x : Nat} {t : TypeId} {l : List Nat} (h : Ww w g t l) (hx : l[i]? = some x) : w.cell? ⟨g, i, none⟩ = some (.int .u32 (x : Int)) := by
 rw [cell_of_row w g i _ t (0, 0) h]
 simp [wordsW, hx]
theorem Ww.frozen {w : World} {g : Nat} {t : TypeId} {l : List Nat} (h : Ww w g t l) (i : Nat) : w.frozen? ⟨g, i, none⟩ = false := frozen_of_row w g i _ t h
theorem Ww.set_ {w : World} {g i x : Nat} {t : TypeId} {l : List Nat} {y : Int} (h : Ww w g t l) (hy : y = (x : Int)) : Ww (w.setCell ⟨g, i, none⟩ (.int .u32 y)) g t (l.set i x) := by
 subst hy
 have := heap_setCell_same w g i _ t (.int .u32 (x : Int)) h
 unfold Ww
 rw [this]
 congr 2
 simp [wordsW, List.map_set]
theorem Ww.new (w : World) (l : List Nat) (t : TypeId) : Ww (w.alloc (.cells (wordsW l) t)) w.heap.size t l := heap_alloc_new w _
theorem Ww.lt {w : World} {g : Nat} {t : TypeId} {l : List Nat} (h : Ww w g t l) : g < w.heap.size := (Array.getElem?_eq_some_iff.1 h).1
theorem Ww.alloc {w : World} {g : Nat} {t : TypeId} {l : List Nat} (h : Ww w g t l) (o : Obj) : Ww (w.alloc o) g t l := (Below.heap_alloc w o g h.lt).trans h
theorem Ww.far {w : World} {g : Nat} {t : TypeId} {l : List Nat} (h : Ww w g t l) {p : Addr} (hp : g ≠ p.block) (u : Value) : Ww (w.setCell p u) g t l := (heap_setCell_other w p g u hp).trans h
theorem Ww.drewN {w : World} {g : Nat} {t : TypeId} {l : List Nat} (h : Ww w g t l) (n : Nat) : Ww (w.drewN n) g t l := h
theorem Ww.below {w w' : World} {g B : Nat} {t : TypeId} {l : List Nat} (h : Ww w g t l) (hb : Below B w w') (hg : g < B) : Ww w' g t l := (hb.block g hg).trans h
theorem wordsW_size (l : List Nat) : (wordsW l).size = l.length := by simp [wordsW]
theorem wordsW_one (l : List Nat) : (wordsW l).all (·.oneCell') = true := by
 rw [Array.all_eq_true]
 intro i hi
 simp [wordsW, Value.oneCell']
theorem Ww.row {w : World} {g : Nat} {t : TypeId} {l m : List Nat} (h : Ww w g t l) : Ww (w.setRow g (wordsW m)) g t m := setRow_heap w g _ _ t _ h
theorem Ww.rowFar {w : World} {g g' : Nat} {t : TypeId} {l : List Nat} (h : Ww w g t l) (hne : g ≠ g') (cs : Array Value) : Ww (w.setRow g' cs) g t l := (setRow_other w g' g cs hne).trans h
def H0L : List Nat := [0x6a09e667, 0xbb67ae85, 0x3c6ef372, 0xa54ff53a, 0x510e527f, 0x9b05688c, 0x1f83d9ab, 0x5be0cd19]
def keysL : List Nat := [0x428a2f98, 0x71374491, 0xb5c0fbcf, 0xe9b5dba5, 0x3956c25b, 0x59f111f1, 0x923f82a4, 0xab1c5ed5, 0xd807aa98, 0x12835b01, 0x243185be, 0x550c7dc3, 0x72be5d74, 0x80deb1fe, 0x9bdc06a7, 0xc19bf174, 0xe49b69c1, 0xefbe4786, 0x0fc19dc6, 0x240ca1cc, 0x2de92c6f, 0x4a7484aa, 0x5cb0a9dc, 0x76f988da, 0x983e5152, 0xa831c66d, 0xb00327c8, 0xbf597fc7, 0xc6e00bf3, 0xd5a79147, 0x06ca6351, 0x14292967, 0x27b70a85, 0x2e1b2138, 0x4d2c6dfc, 0x53380d13, 0x650a7354, 0x766a0abb, 0x81c2c92e, 0x92722c85, 0xa2bfe8a1, 0xa81a664b, 0xc24b8b70, 0xc76c51a3, 0xd192e819, 0xd6990624, 0xf40e3585, 0x106aa070, 0x19a4c116, 0x1e376c08, 0x2748774c, 0x34b0bcb5, 0x391c0cb3, 0x4ed8aa4a, 0x5b9cca4f, 0x682e6ff3, 0x748f82ee, 0x78a5636f, 0x84c87814, 0x8cc70208, 0x90befffa, 0xa4506ceb, 0xbef9a3f7, 0xc67178f2]
theorem infoU32 : (Tryz.prog.info? 30).map (·.size) = some 1 := by kernel_rfl
theorem infoState : (Tryz.prog.info? 249).map (·.size) = some 8 := by kernel_rfl
theorem infoWords : (Tryz.prog.info? 264).map (·.size) = some 64 := by kernel_rfl
theorem first_any (w : World) :
 Calls Tryz.prog 176 #[] w fun e w' => e = .returned (.agg (wordsW H0L)) /\ Below w.heap.size w w' := by
 go_enter Tryz.func176, Tryz.ntmps176
 go_wp2_with (first
  | (refine wpList_buildFlatArr rfl 249 30 8 _ rfl .u32 (H0L.map fun (x : Nat) => (x : Int)) Tryz.underlying249 infoU32 (by kernel_rfl) rfl ?_)
  | (refine wpList_store_row rfl 249 (.tmp 0) (.tmp 1) rfl w.heap.size (wordsW H0L) rfl rfl 249 _ (heap_alloc_new w _) infoState (by rfl) (wordsW_one _) ?_))
 refine bodyPost_ret (v := .agg (wordsW H0L)) ?_ (by rfl) ?_
 · exact results_cell_row (p := 0) (ty := 249) rfl _ _ w.heap.size 249 (wordsW H0L) _ _ rfl (setRow_heap _ _ _ _ 249 _ (heap_alloc_new w _)) Tryz.underlying249 rfl infoState
 · exact ⟨rfl, below_setRow ((Below.refl _ _).alloc (Nat.le_refl _) _) (Nat.le_refl _) _⟩
theorem constants_any (w : World) :
 Calls Tryz.prog 186 #[] w fun e w' => e = .returned (.agg (wordsW keysL)) /\ Below w.heap.size w w' := by
 go_enter Tryz.func186, Tryz.ntmps186
 go_wp2_with (first
  | (refine wpList_buildFlatArr rfl 264 30 64 _ rfl .u32 (keysL.map fun (x : Nat) => (x : Int)) Tryz.underlying264 infoU32 (by kernel_rfl) rfl ?_)
  | (refine wpList_store_row rfl 264 (.tmp 0) (.tmp 1) rfl w.heap.size (wordsW keysL) rfl rfl 264 _ (heap_alloc_new w _) infoWords (by rfl) (wordsW_one _) ?_))
 refine bodyPost_ret (v := .agg (wordsW keysL)) ?_ (by rfl) ?_
 · exact results_cell_row (p := 0) (ty := 264) rfl _ _ w.heap.size 264 (wordsW keysL) _ _ rfl (setRow_heap _ _ _ _ 264 _ (heap_alloc_new w _)) Tryz.underlying264 rfl infoWords
 · exact ⟨rfl, below_setRow ((Below.refl _ _).alloc (Nat.le_refl _) _) (Nat.le_refl _) _⟩
def wsN (b : List UInt8) (j : Nat) : List Nat := (List.range j).map (fun i => wordB b (4 * i)) ++ List.replicate (64 - j) 0
theorem wsN_len (b : List UInt8) (j : Nat) (h : j <= 64) : (wsN b j).length = 64 := by simp [wsN]; omega
theorem wsN_small (b : List UInt8) (j : Nat) : Small (wsN b j) := by
 intro x hx
 simp only [wsN, List.mem_append, List.mem_map, List.mem_range, List.mem_replicate] at hx
 rcases hx with ⟨i, _, rfl⟩ | ⟨_, rfl⟩
 · exact wordB_lt _ _
 · omega
theorem wsN_set (b : List UInt8) (j : Nat) (h : j < 64) : (wsN b j).set j (wordB b (4 * j)) = wsN b (j + 1) := by
 unfold wsN
 rw [List.set_append_right _ _ (by simp), List.range_succ, List.map_append, List.append_assoc]
 congr 1
 rw [show 64 - j = (64 - (j + 1)) + 1 by omega, List.replicate_succ]
 simp
theorem infoBlock : (Tryz.prog.info? 252).map (·.size) = some 64 := by kernel_rfl
theorem word_at4 (b : List UInt8) (j : Nat) (w : World) (hb : b.length = 64) (hk : j < 16) :
 Calls Tryz.prog 193 #[.agg (cellsB b).toArray, .int .i64 (4 * (j : Int))] w fun e w' => e = .returned (.int .u32 ((wordB b (4 * j) : Nat) : Int)) /\ Below w.heap.size w w' := by
 have := word_any b (4 * j) w hb (by omega)
 rwa [show ((4 * j : Nat) : Int) = 4 * (j : Int) by omega] at this
theorem cell_farS {W : World} {g i k : Nat} {u v : Value} (h : W.cell? ⟨g, k, none⟩ = some v) (hne : k ≠ i) : (W.setCell ⟨g, i, none⟩ u).cell? ⟨g, k, none⟩ = some v := by
 rw [World.cell?_setCell_other W _ _ u (fun e => by simp at e <;> omega)]; exact h
def SchR (w wr : World) (b : List UInt8) (ws : List Nat) : Prop :=
 wr.heap[w.heap.size]? = some (.cells (cellsB b).toArray 252 (0, 0)) /\ Ww wr (w.heap.size + 1) 264 (List.replicate 64 0) /\ Ww wr (w.heap.size + 1 + 1) 264 ws /\ Below w.heap.size w wr
theorem SchR.below {w wr wr' : World} {b : List UInt8} {ws : List Nat} (h : SchR w wr b ws) (hb : Below wr.heap.size wr wr') : SchR w wr' b ws := by
 obtain ⟨h0, h1, h2, h3⟩ := h
 exact ⟨(hb.block _ (Array.getElem?_eq_some_iff.1 h0).1).trans h0, h1.below hb h1.lt, h2.below hb h2.lt, h3.trans (hb.mono h3.size)⟩
theorem SchR.drewN {w wr : World} {b : List UInt8} {ws : List Nat} (h : SchR w wr b ws) (n : Nat) : SchR w (wr.drewN n) b ws := ⟨h.1, h.2.1, h.2.2.1, below_drewN h.2.2.2 n⟩
theorem SchR.put {w wr : World} {b : List UInt8} {ws : List Nat} (h : SchR w wr b ws) {i x : Nat} {y : Int} (hy : y = (x : Int)) : SchR w (wr.setCell ⟨w.heap.size + 1 + 1, i, none⟩ (.int .u32 y)) b (ws.set i x) := by
 obtain ⟨h0, h1, h2, h3⟩ := h
 exact ⟨(heap_setCell_other wr ⟨w.heap.size + 1 + 1, i, none⟩ _ _ (show w.heap.size ≠ w.heap.size + 1 + 1 by omega)).trans h0, h1.far (show w.heap.size + 1 ≠ w.heap.size + 1 + 1 by omega) _, h2.set_ hy, h3.setCell (p := ⟨w.heap.size + 1 + 1, i, none⟩) (show w.heap.size <= w.heap.size + 1 + 1 by omega) _⟩
theorem SchR.new (w : World) (b : List UInt8) : SchR w (((w.alloc (.cells (cellsB b).toArray 252)).alloc (.cells (wordsW (List.replicate 64 0)) 264)).alloc (.cells (wordsW (List.replicate 64 0)) 264)) b (wsN b 0) := by
 have e0 : wsN b 0 = List.replicate 64 0 := rfl
 rw [e0]
 refine ⟨?_, ?_, ?_, (((Below.refl _ _).alloc (Nat.le_refl _) _).alloc (by simp) _).alloc (by simp; omega) _⟩
 · exact (Below.heap_alloc _ _ _ (by simp; omega)).trans ((Below.heap_alloc _ _ _ (by simp)).trans (heap_alloc_new w _))
 · have := (Ww.new (w.alloc (.cells (cellsB b).toArray 252)) (List.replicate 64 0) 264).alloc (.cells (wordsW (List.replicate 64 0)) 264)
   simpa using this
 · have := Ww.new ((w.alloc (.cells (cellsB b).toArray 252)).alloc (.cells (wordsW (List.replicate 64 0)) 264)) (List.replicate 64 0) 264
   simpa using this
theorem sched_any (b : List UInt8) (w : World) (hb : b.length = 64) :
 Calls Tryz.prog 187 #[.agg (cellsB b).toArray] w fun e w' => e = .returned (.agg (wordsW (schedN (wsN b 16) 48))) /\ Below w.heap.size w w' := by
 have ib : (Tryz.prog.info? 252).map (·.size) = some (cellsB b).toArray.size := by rw [cellsB_size, hb]; exact infoBlock
 have IB := lH ib
 have HB := lH hb
 clear ib hb
 go_enter Tryz.func187, Tryz.ntmps187
 go_wp2_with fail
 go_loopw [6] (fun i wr => ∃ j : Nat, j <= 16 /\ i = .int .i64 (j : Int) /\ SchR w wr b (wsN b j)) (fun i _ => 16 - (intOf i).toNat)
 case atStart => exact ⟨0, by omega, rfl, SchR.new w b⟩
 case round =>
  obtain ⟨j, hj, rfl, hR⟩ := hrel
  by_cases hlt : j < 16
  · have h0 := hR.1
    have H0 := lH h0
    have HR := lH hR
    have hwl := wordB_lt b (4 * j)
    clear h0 hR
    go_wp2_with (first
     | (refine wpList_load_row rfl 252 (.tmp 1) rfl w.heap.size rfl 252 (cellsB b).toArray (0, 0) _ H0.out Tryz.underlying252 rfl IB.out ?_)
     | (go_at_call 193; refine (word_at4 b j _ HB.out hlt).mono ?_; rintro e w1 ⟨rfl, hb1⟩
        have R1 := HR.out.below hb1
        have HR1 := lH R1
        obtain ⟨x, hx, _⟩ := word_at (wsN b j) j (by rw [wsN_len b j (by omega)]; omega)
        have c1 := R1.2.2.1.cell hx
        have f1 := R1.2.2.1.frozen j
        clear R1 hx))
    go_roundw
    case rel => exact ⟨j + 1, by omega, by go_num, by rw [<- wsN_set b j (by omega)]; exact HR1.out.put rfl⟩
    case measure => simp [intOf]; omega
  · obtain rfl : j = 16 := by omega
    have HR := lH hR
    clear hR
    rw [show ((16 : Nat) : Int) = 16 from rfl]
    go_wp2_with fail
    go_loopw [5] (fun i wr => ∃ m : Nat, 16 <= m /\ m <= 64 /\ i = .int .i64 (m : Int) /\ SchR w wr b (schedN (wsN b 16) (m - 16))) (fun i _ => 64 - (intOf i).toNat)
    case atStart => exact ⟨16, by omega, by omega, rfl, HR.out⟩
    case round =>
     have sw := wsN_small b 16
     have lw := wsN_len b 16 (by omega)
     obtain ⟨m, hm, hm2, rfl, hR⟩ := hrel
     by_cases hlt : m < 64
     · have hlen : (schedN (wsN b 16) (m - 16)).length = 64 := by rw [schedN_len, lw]
       have hsm := schedN_small (wsN b 16) sw (m - 16)
       have hnx : schedN (wsN b 16) (m + 1 - 16) = (schedN (wsN b 16) (m - 16)).set m (schedW (schedN (wsN b 16) (m - 16)) m) := by
        rw [show m + 1 - 16 = (m - 16) + 1 by omega, schedN, show 16 + (m - 16) = m by omega]
       obtain ⟨x1, a1, b1⟩ := word_at (schedN (wsN b 16) (m - 16)) (m - 15) (by omega)
       obtain ⟨x2, a2, b2⟩ := word_at (schedN (wsN b 16) (m - 16)) (m - 2) (by omega)
       obtain ⟨x3, a3, b3⟩ := word_at (schedN (wsN b 16) (m - 16)) (m - 16) (by omega)
       obtain ⟨x4, a4, b4⟩ := word_at (schedN (wsN b 16) (m - 16)) (m - 7) (by omega)
       obtain ⟨x5, a5, b5⟩ := word_at (schedN (wsN b 16) (m - 16)) m (by omega)
       have hW := hR.2.2.1
       have c1 := hW.cell a1
       have c2 := hW.cell a2
       have c3 := hW.cell a3
       have c4 := hW.cell a4
       have c5 := hW.cell a5
       have cf := hW.frozen m
       have l1 := hsm.at_ a1
       have l2 := hsm.at_ a2
       have l3 := hsm.at_ a3
       have l4 := hsm.at_ a4
       have m0 := s0_lt x1 l1
       have m1 := s1_lt x2 l2
       have hval : schedW (schedN (wsN b 16) (m - 16)) m = (x3 + s0 x1 + x4 + s1 x2) % 4294967296 := by unfold schedW; rw [b1, b2, b3, b4]
       rw [hval] at hnx
       have HNX := lH hnx
       have HR2 := lH hR
       have HM2 := lH hm2
       clear hnx hW hsm hlen a1 a2 a3 a4 a5 b1 b2 b3 b4 b5 hval sw lw hR HR hm2
       have g16 : (16 : Int) <= (m : Int) := by omega
       have g15 : (15 : Int) <= (m : Int) := by omega
       have g7 : (7 : Int) <= (m : Int) := by omega
       have g2 : (2 : Int) <= (m : Int) := by omega
       have u16 : (m : Int) - 16 < 64 := by omega
       have u15 : (m : Int) - 15 < 64 := by omega
       have u7 : (m : Int) - 7 < 64 := by omega
       have u2 : (m : Int) - 2 < 64 := by omega
       have n16 : (0 : Int) <= (m : Int) - 16 := by omega
       have n15 : (0 : Int) <= (m : Int) - 15 := by omega
       have n7 : (0 : Int) <= (m : Int) - 7 := by omega
       have n2 : (0 : Int) <= (m : Int) - 2 := by omega
       have um : (m : Int) < 64 := by omega
       have t16 : ((m : Int) - 16).toNat = m - 16 := by omega
       have t15 : ((m : Int) - 15).toNat = m - 15 := by omega
       have t7 : ((m : Int) - 7).toNat = m - 7 := by omega
       have t2 : ((m : Int) - 2).toNat = m - 2 := by omega
       have q16 : IntKind.i64.wrap ((m : Int) - 16) = (m : Int) - 16 := IntWalk.i64_in _ (by omega)
       have q15 : IntKind.i64.wrap ((m : Int) - 15) = (m : Int) - 15 := IntWalk.i64_in _ (by omega)
       have q7 : IntKind.i64.wrap ((m : Int) - 7) = (m : Int) - 7 := IntWalk.i64_in _ (by omega)
       have q2 : IntKind.i64.wrap ((m : Int) - 2) = (m : Int) - 2 := IntWalk.i64_in _ (by omega)
       go_wp2_with fail
       go_region_held3 (fun w' => w'.cell? ⟨w.heap.size + 1 + 1, m - 15, none⟩ = some (.int .u32 (x1 : Int)) /\ w'.cell? ⟨w.heap.size + 1 + 1, m - 2, none⟩ = some (.int .u32 (x2 : Int)) /\ w'.cell? ⟨w.heap.size + 1 + 1, m - 16, none⟩ = some (.int .u32 (x3 : Int)) /\ w'.cell? ⟨w.heap.size + 1 + 1, m - 7, none⟩ = some (.int .u32 (x4 : Int)))
        (first | go_keep | exact ⟨cell_farS c1 (by omega), cell_farS c2 (by omega), cell_farS c3 (by omega), cell_farS c4 (by omega)⟩)
        (first
          | (go_at_call 194; refine (lower0_any x1 _ l1).mono ?_; rintro e w1 ⟨rfl, k1, rfl⟩)
          | (go_at_call 195; refine (lower1_any x2 _ l2).mono ?_; rintro e w1 ⟨rfl, k2, rfl⟩))
       go_wp2_with fail
       go_roundw
       case rel =>
        refine ⟨m + 1, by omega, by omega, by go_num, ?_⟩
        rw [HNX.out]
        exact (HR2.out.drewN _).put (by (try simp only [IntKind.wrap_u32]); omega)
       case measure => simp [intOf]; omega
     · obtain rfl : m = 64 := by omega
       have HR2 := lH hR
       have hsz : (wordsW (schedN (wsN b 16) (64 - 16))).size = 64 := by rw [wordsW_size, schedN_len, lw]
       have iv : (Tryz.prog.info? 264).map (·.size) = some (wordsW (schedN (wsN b 16) (64 - 16))).size := by rw [hsz]; exact infoWords
       have hz : (wordsW (List.replicate 64 0)).size = (wordsW (schedN (wsN b 16) (64 - 16))).size := by rw [hsz]; rfl
       have H1 := lH hR.2.1
       have H2 := lH hR.2.2.1
       have HB2 := lH hR.2.2.2
       have IV := lH iv
       have HZ := lH hz
       clear hsz iv hz hR HR sw lw
       go_wp2_with (first
        | (refine wpList_load_row rfl 264 (.tmp 3) rfl (w.heap.size + 1 + 1) rfl 264 (wordsW (schedN (wsN b 16) (64 - 16))) (0, 0) _ H2.out Tryz.underlying264 rfl IV.out ?_)
        | (refine wpList_store_row rfl 264 (.tmp 2) (.tmp 43) rfl (w.heap.size + 1) (wordsW (schedN (wsN b 16) (64 - 16))) rfl rfl 264 _ H1.out IV.out HZ.out (wordsW_one _) ?_))
       refine bodyPost_ret (v := .agg (wordsW (schedN (wsN b 16) (64 - 16)))) ?_ (by rfl) ?_
       · exact results_cell_row (p := 2) (ty := 264) rfl _ _ (w.heap.size + 1) 264 (wordsW (schedN (wsN b 16) (64 - 16))) _ _ rfl (setRow_heap _ _ _ _ 264 _ H1.out) Tryz.underlying264 rfl IV.out
       · exact ⟨rfl, below_setRow HB2.out (by omega) _⟩
theorem wpList_index_row {P : Program} {ops : Array Oper} {rest : List Oper} {o : Oper} {a : Act} {w : World} {Q : Exit -> Act -> World -> Prop} (hgd : o.guard = none) (t e : TypeId) (x y : Operand) (ho : o.op = .index t x y)
 (cs : Array Value) (k : IntKind) (n i : Nat) (v : Value) (hx : a.eval x = .agg cs) (hy : a.eval y = .int k (i : Int)) (hu : P.underlying t = some (.array n e)) (hi : i < n) (hsz : (P.info? e).map (·.size) = some 1) (hp : P.plainKey e = true)
 (hv : cs[i]? = some v) (h : wpList P ops Q rest (a.put o.dst v) w) : wpList P ops Q (o :: rest) a w := by
 refine wpList_plain hgd fun K hK => ?_
 cases hq : P.info? e with
 | none => simp [hq] at hsz
 | some ie =>
   have hs : ie.size = 1 := by simpa [hq] using hsz
   have hpart := run_part_plain (P := P) w hp hv
   unfold Oper.wp
   simp [execOp, ho, hx, hy, Instr.index, run_underlying hu, asIntOf, hi, sizeOf, typeInfo, hq, hs, hpart, Result.andThen]
   exact hK _ _ h
theorem plainU32 : Tryz.prog.plainKey 30 = true := by kernel_rfl
def outAt (s : List Nat) (i : Nat) : UInt8 := UInt8.ofNat (s.getD (i / 4) 0 / 2 ^ (24 - 8 * (i % 4)))
def outN (s : List Nat) (j : Nat) : List UInt8 := (List.range j).map (outAt s) ++ List.replicate (32 - j) 0
def outB (s : List Nat) : List UInt8 := outN s 32
theorem outN_len (s : List Nat) (j : Nat) (h : j <= 32) : (outN s j).length = 32 := by simp [outN]; omega
theorem outN_set (s : List Nat) (j : Nat) (h : j < 32) : (outN s j).set j (outAt s j) = outN s (j + 1) := by
 unfold outN
 rw [List.set_append_right _ _ (by simp), List.range_succ, List.map_append, List.append_assoc]
 congr 1
 rw [show 32 - j = (32 - (j + 1)) + 1 by omega, List.replicate_succ]
 simp
def StR (w wr : World) (s : List Nat) (l : List UInt8) : Prop :=
 Ww wr w.heap.size 249 s /\ Bw wr (w.heap.size + 1) 56 (List.replicate 32 0) /\ Bw wr (w.heap.size + 1 + 1) 56 l /\ Below w.heap.size w wr
theorem StR.new (w : World) (s : List Nat) : StR w (((w.alloc (.cells (wordsW s) 249)).alloc (.cells (cellsB (List.replicate 32 0)).toArray 56)).alloc (.cells (cellsB (List.replicate 32 0)).toArray 56)) s (outN s 0) := by
 have e0 : outN s 0 = List.replicate 32 0 := rfl
 rw [e0]
 refine ⟨((Ww.new _ _ _).alloc _).alloc _, ?_, ?_, (((Below.refl _ _).alloc (Nat.le_refl _) _).alloc (by simp) _).alloc (by simp; omega) _⟩
 · have := (Bw.new (w.alloc (.cells (wordsW s) 249)) (List.replicate 32 0) 56).alloc (.cells (cellsB (List.replicate 32 0)).toArray 56)
   simpa using this
 · have := Bw.new ((w.alloc (.cells (wordsW s) 249)).alloc (.cells (cellsB (List.replicate 32 0)).toArray 56)) (List.replicate 32 0) 56
   simpa using this
theorem StR.put {w wr : World} {s : List Nat} {l : List UInt8} (h : StR w wr s l) {i : Nat} {x : UInt8} {y : Int} (hy : y = (x.toNat : Int)) : StR w (wr.setCell ⟨w.heap.size + 1 + 1, i, none⟩ (.int .u8 y)) s (l.set i x) := by
 obtain ⟨h0, h1, h2, h3⟩ := h
 exact ⟨h0.far (show w.heap.size ≠ w.heap.size + 1 + 1 by omega) _, h1.far (show w.heap.size + 1 ≠ w.heap.size + 1 + 1 by omega) _, h2.set_ hy, h3.setCell (p := ⟨w.heap.size + 1 + 1, i, none⟩) (show w.heap.size <= w.heap.size + 1 + 1 by omega) _⟩
theorem bytes_any (s : List Nat) (w : World) (hs : s.length = 8) (ss : Small s) :
 Calls Tryz.prog 179 #[.agg (wordsW s)] w fun e w' => e = .returned (.agg (cellsB (outB s)).toArray) /\ Below w.heap.size w w' := by
 have HS := lH hs
 clear hs
 go_enter Tryz.func179, Tryz.ntmps179
 go_wp2_with fail
 go_loopw [5] (fun i wr => ∃ j : Nat, j <= 32 /\ i = .int .i64 (j : Int) /\ StR w wr s (outN s j)) (fun i _ => 32 - (intOf i).toNat)
 case atStart => exact ⟨0, by omega, rfl, StR.new w s⟩
 case round =>
  obtain ⟨j, hj, rfl, hR⟩ := hrel
  by_cases hlt : j < 32
  · obtain ⟨x, ax, bx⟩ := word_at s (j / 4) (by rw [HS.out]; omega)
    obtain ⟨z, az, _⟩ := byte_at (outN s j) j (by rw [outN_len s j hj]; omega)
    have c1 := hR.1.cell ax
    have lx := ss.at_ ax
    have c2 := hR.2.2.1.cell az
    have f2 := hR.2.2.1.frozen j
    have HX := lH bx
    have HR := lH hR
    have g1 : (0 : Int) <= (j : Int) / 4 := by omega
    have g2 : (j : Int) / 4 < 8 := by omega
    have g3 : ((j : Int) / 4).toNat = j / 4 := by omega
    have g4 : (0 : Int) <= 24 - 8 * ((j : Int) % 4) := by omega
    have g5 : (24 - 8 * ((j : Int) % 4)).toNat = 24 - 8 * (j % 4) := by omega
    clear ax bx az hR
    go_wp2_with fail
    go_roundw
    case rel =>
     refine ⟨j + 1, by omega, by go_num, ?_⟩
     rw [<- outN_set s j hlt]
     exact HR.out.put (by unfold outAt; rw [HX.out, UInt8.toNat_ofNat']; simp)
    case measure => simp [intOf]; omega
  · obtain rfl : j = 32 := by omega
    have hsz : (cellsB (outB s)).toArray.size = 32 := by rw [cellsB_size]; exact outN_len s 32 (by omega)
    have iv : (Tryz.prog.info? 56).map (·.size) = some (cellsB (outB s)).toArray.size := by rw [hsz]; exact infoID
    have hz : (cellsB (List.replicate 32 0)).toArray.size = (cellsB (outB s)).toArray.size := by rw [hsz]; rfl
    have h2 : Bw wr (w.heap.size + 1 + 1) 56 (outB s) := hR.2.2.1
    have H1 := lH hR.2.1
    have H2 := lH h2
    have HB2 := lH hR.2.2.2
    have IV := lH iv
    have HZ := lH hz
    clear hsz iv hz hR h2
    go_wp2_with (first
     | (refine wpList_load_row rfl 56 (.tmp 3) rfl (w.heap.size + 1 + 1) rfl 56 (cellsB (outB s)).toArray (0, 0) _ H2.out Tryz.underlying56 rfl IV.out ?_)
     | (refine wpList_store_row rfl 56 (.tmp 2) (.tmp 21) rfl (w.heap.size + 1) (cellsB (outB s)).toArray rfl rfl 56 _ H1.out IV.out HZ.out (cellsB_ones _) ?_))
    refine bodyPost_ret (v := .agg (cellsB (outB s)).toArray) ?_ (by rfl) ?_
    · exact results_cell_row (p := 2) (ty := 56) rfl _ _ (w.heap.size + 1) 56 (cellsB (outB s)).toArray _ _ rfl (setRow_heap _ _ _ _ 56 _ H1.out) Tryz.underlying56 rfl IV.out
    · exact ⟨rfl, below_setRow HB2.out (by omega) _⟩
def comp (s : List Nat) (b : List UInt8) : List Nat := blockS s (wsN b 16) keysL
def MixR (w wr : World) (s : List Nat) (b : List UInt8) (g : Nat) : Prop :=
 Ww wr w.heap.size 249 s /\ wr.heap[w.heap.size + 1]? = some (.cells (cellsB b).toArray 252 (0, 0)) /\ Ww wr (w.heap.size + 1 + 1) 249 (List.replicate 8 0) /\ Ww wr g 264 keysL /\ Below w.heap.size w wr
theorem MixR.below {w wr wr' : World} {s : List Nat} {b : List UInt8} {g : Nat} (h : MixR w wr s b g) (hb : Below wr.heap.size wr wr') : MixR w wr' s b g := by
 obtain ⟨h0, h1, h2, h3, h4⟩ := h
 exact ⟨h0.below hb h0.lt, (hb.block _ (Array.getElem?_eq_some_iff.1 h1).1).trans h1, h2.below hb h2.lt, h3.below hb h3.lt, h4.trans (hb.mono h4.size)⟩
theorem MixR.drewN {w wr : World} {s : List Nat} {b : List UInt8} {g : Nat} (h : MixR w wr s b g) (n : Nat) : MixR w (wr.drewN n) s b g := ⟨h.1, h.2.1, h.2.2.1, h.2.2.2.1, below_drewN h.2.2.2.2 n⟩
theorem MixR.new (w w1 : World) (s : List Nat) (b : List UInt8) (z : Array Value)
 (hb : Below (((w.alloc (.cells (wordsW s) 249)).alloc (.cells (cellsB b).toArray 252)).alloc (.cells (wordsW (List.replicate 8 0)) 249)).heap.size (((w.alloc (.cells (wordsW s) 249)).alloc (.cells (cellsB b).toArray 252)).alloc (.cells (wordsW (List.replicate 8 0)) 249)) w1) :
 MixR w ((w1.alloc (.cells z 264)).setRow w1.heap.size (wordsW keysL)) s b w1.heap.size := by
 have hs := hb.size
 simp at hs
 have q0 : Ww (((w.alloc (.cells (wordsW s) 249)).alloc (.cells (cellsB b).toArray 252)).alloc (.cells (wordsW (List.replicate 8 0)) 249)) w.heap.size 249 s := ((Ww.new _ _ _).alloc _).alloc _
 have q1 : (((w.alloc (.cells (wordsW s) 249)).alloc (.cells (cellsB b).toArray 252)).alloc (.cells (wordsW (List.replicate 8 0)) 249)).heap[w.heap.size + 1]? = some (.cells (cellsB b).toArray 252 (0, 0)) := by
  refine (Below.heap_alloc _ _ _ (by simp)).trans ?_
  have := heap_alloc_new (w.alloc (.cells (wordsW s) 249)) (.cells (cellsB b).toArray 252)
  simpa using this
 have q2 : Ww (((w.alloc (.cells (wordsW s) 249)).alloc (.cells (cellsB b).toArray 252)).alloc (.cells (wordsW (List.replicate 8 0)) 249)) (w.heap.size + 1 + 1) 249 (List.replicate 8 0) := by
  have := Ww.new ((w.alloc (.cells (wordsW s) 249)).alloc (.cells (cellsB b).toArray 252)) (List.replicate 8 0) 249
  simpa using this
 have q3 : Below w.heap.size w (((w.alloc (.cells (wordsW s) 249)).alloc (.cells (cellsB b).toArray 252)).alloc (.cells (wordsW (List.replicate 8 0)) 249)) := (((Below.refl _ _).alloc (Nat.le_refl _) _).alloc (by simp) _).alloc (by simp; omega) _
 refine ⟨((q0.below hb q0.lt).alloc _).rowFar (by omega) _, (setRow_other _ _ _ _ (by omega)).trans ((Below.heap_alloc _ _ _ (by omega)).trans ((hb.block _ (by simp)).trans q1)), ((q2.below hb q2.lt).alloc _).rowFar (by omega) _, setRow_heap _ _ _ _ _ _ (heap_alloc_new w1 _), ?_⟩
 exact below_setRow ((q3.trans (hb.mono (by simp; omega))).alloc (by omega) _) (by omega) _
structure SchedOf (b : List UInt8) (W : List Nat) : Prop where
 out : schedN (wsN b 16) 48 = W
theorem mix_any (s : List Nat) (b : List UInt8) (w : World) (hs : s.length = 8) (ss : Small s) (hb : b.length = 64) :
 Calls Tryz.prog 178 #[.agg (wordsW s), .agg (cellsB b).toArray] w fun e w' => e = .returned (.agg (wordsW (comp s b))) /\ Below w.heap.size w w' := by
 have ib : (Tryz.prog.info? 252).map (·.size) = some (cellsB b).toArray.size := by rw [cellsB_size, hb]; exact infoBlock
 have IB := lH ib
 have HB := lH hb
 have HS := lH hs
 clear ib hb hs
 go_enter Tryz.func178, Tryz.ntmps178
 go_wp2_with (first
  | (go_at_call 186; refine (constants_any _).mono ?_; rintro e w1 ⟨rfl, hb1⟩
     have hn := heap_alloc_new w1 (.cells (wordsW (List.replicate 64 0)) 264)
     have HN := lH hn
     have HB1 := lH hb1
     clear hn hb1)
  | (refine wpList_store_row rfl 264 (.tmp 5) (.tmp 18) rfl w1.heap.size (wordsW keysL) rfl rfl 264 _ HN.out infoWords (by rfl) (wordsW_one _) ?_))
 generalize hwm : World.setRow (w1.alloc _) _ _ = wm
 have R0 : MixR w wm s b w1.heap.size := by rw [<- hwm]; exact MixR.new w w1 s b _ HB1.out
 generalize w1.heap.size = g at *
 clear hwm HN HB1
 have hc0 := (roundN_len s keysL (schedN (wsN b 16) 48) HS.out 0)
 obtain ⟨y0, y1, y2, y3, y4, y5, y6, y7, hs⟩ := eight HS.out
 have hs2 := hs
 have r0 := R0.1
 rw [hs] at r0
 have c0 : wm.cell? ⟨w.heap.size, 0, none⟩ = some (.int .u32 (y0 : Int)) := r0.cell rfl
 have c1 : wm.cell? ⟨w.heap.size, 1, none⟩ = some (.int .u32 (y1 : Int)) := r0.cell rfl
 have c2 : wm.cell? ⟨w.heap.size, 2, none⟩ = some (.int .u32 (y2 : Int)) := r0.cell rfl
 have c3 : wm.cell? ⟨w.heap.size, 3, none⟩ = some (.int .u32 (y3 : Int)) := r0.cell rfl
 have c4 : wm.cell? ⟨w.heap.size, 4, none⟩ = some (.int .u32 (y4 : Int)) := r0.cell rfl
 have c5 : wm.cell? ⟨w.heap.size, 5, none⟩ = some (.int .u32 (y5 : Int)) := r0.cell rfl
 have c6 : wm.cell? ⟨w.heap.size, 6, none⟩ = some (.int .u32 (y6 : Int)) := r0.cell rfl
 have c7 : wm.cell? ⟨w.heap.size, 7, none⟩ = some (.int .u32 (y7 : Int)) := r0.cell rfl
 have RH := lH R0
 have HS2 := lH hs
 have hrow := R0.2.1
 have HROW := lH hrow
 clear hs hs2 r0 R0 hrow hc0
 go_wp2_with fail
 go_quiet (fail)
 go_wp2_with (first
  | (refine wpList_load_row rfl 252 (.tmp 3) rfl (w.heap.size + 1) rfl 252 (cellsB b).toArray (0, 0) _ HROW.out Tryz.underlying252 rfl IB.out ?_)
  | (go_at_call 187; refine (sched_any b _ HB.out).mono ?_; rintro e w2 ⟨rfl, hb2⟩
     have R2 := (RH.out.drewN nq).below hb2
     have RH2 := lH R2
     clear R2 hb2))
 generalize hW : schedN (wsN b 16) 48 = W
 have lW : W.length = 64 := by rw [<- hW, schedN_len, wsN_len b 16 (by omega)]
 have sW : Small W := by rw [<- hW]; exact schedN_small _ (wsN_small b 16) 48
 have HW : SchedOf b W := ⟨hW⟩
 have LW := lH lW
 clear hW lW c0 c1 c2 c3 c4 c5 c6 c7
 go_loopw [6, 7, 8, 9, 10, 11, 12, 13, 37] (fun p0 p1 p2 p3 p4 p5 p6 p7 i wr => ∃ (j v0 v1 v2 v3 v4 v5 v6 v7 : Nat), j <= 64 /\ i = .int .i64 (j : Int) /\ roundN s keysL W j = [v0, v1, v2, v3, v4, v5, v6, v7] /\ MixR w wr s b g /\
  p0 = .int .u32 (v0 : Int) /\ p1 = .int .u32 (v1 : Int) /\ p2 = .int .u32 (v2 : Int) /\ p3 = .int .u32 (v3 : Int) /\ p4 = .int .u32 (v4 : Int) /\ p5 = .int .u32 (v5 : Int) /\ p6 = .int .u32 (v6 : Int) /\ p7 = .int .u32 (v7 : Int))
  (fun _ _ _ _ _ _ _ _ i _ => 64 - (intOf i).toNat)
 case atStart => exact ⟨0, y0, y1, y2, y3, y4, y5, y6, y7, by omega, rfl, HS2.out, RH2.out, rfl, rfl, rfl, rfl, rfl, rfl, rfl, rfl⟩
 case round =>
  obtain ⟨j, v0, v1, v2, v3, v4, v5, v6, v7, hj, rfl, hv, hR, rfl, rfl, rfl, rfl, rfl, rfl, rfl, rfl⟩ := hrel
  by_cases hlt : j < 64
  · have sv := roundN_small s keysL W HS.out ss j
    rw [hv] at sv
    have hnx : roundN s keysL W (j + 1) = roundS [v0, v1, v2, v3, v4, v5, v6, v7] (keysL.getD j 0) (W.getD j 0) := by rw [roundN, hv]
    obtain ⟨kj, ak, bk⟩ := word_at keysL j (show j < 64 from hlt)
    obtain ⟨wj, aw, bw⟩ := word_at W j (by rw [LW.out]; exact hlt)
    rw [bk, bw] at hnx
    have lw := sW.at_ aw
    have ck := hR.2.2.2.1.cell ak
    have cw : (wordsW W)[j]? = some (.int .u32 (wj : Int)) := by simp [wordsW, aw]
    have l0 : v0 < 4294967296 := sv _ (by simp)
    have l1 : v1 < 4294967296 := sv _ (by simp)
    have l2 : v2 < 4294967296 := sv _ (by simp)
    have l3 : v3 < 4294967296 := sv _ (by simp)
    have l4 : v4 < 4294967296 := sv _ (by simp)
    have l5 : v5 < 4294967296 := sv _ (by simp)
    have l6 : v6 < 4294967296 := sv _ (by simp)
    have l7 : v7 < 4294967296 := sv _ (by simp)
    have m1 := S1_lt v4 l4
    have m2 := S0_lt v0 l0
    have m3 := ch_lt v4 v5 v6 l4
    have m4 := maj_lt v0 v1 v2 l0 l1
    have szW : (wordsW W).size = 64 := by rw [wordsW_size, LW.out]
    have HNX := lH hnx
    have HR := lH hR
    clear hnx hR sv hv ak bk aw bw
    go_wp2_with (refine wpList_index_row rfl 264 30 (.tmp 36) (.tmp 37) rfl (wordsW W) .i64 64 j _ rfl rfl Tryz.underlying264 hlt infoU32 plainU32 cw ?_)
    go_quiet (first
     | (go_at_call 188; exact Calls.quiet_of (upper1_any v4 _ l4))
     | (go_at_call 189; exact Calls.quiet_of_same ((choose_any v4 v5 v6 _ l4 l5 l6).mono fun _ _ hh => ⟨hh.1, hh.2.symm⟩)))
    go_wp2_with (first
     | (go_at_call 190; refine (upper0_any v0 _ l0).mono ?_; rintro e w3 ⟨rfl, k1, rfl⟩)
     | (go_at_call 191; refine (majority_any v0 v1 v2 _ l0 l1 l2).mono ?_; rintro e w4 ⟨rfl, rfl⟩))
    go_roundw
    case rel =>
     refine ⟨j + 1, (tS v4 v5 v6 v7 kj wj + S0 v0 + majS v0 v1 v2) % 4294967296, v0, v1, v2, (v3 + tS v4 v5 v6 v7 kj wj) % 4294967296, v4, v5, v6, by omega, by go_num, HNX.out, HR.out.drewN _, ?_, rfl, rfl, rfl, ?_, rfl, rfl, rfl⟩
     · exact congrArg (Value.int .u32) (by unfold tS; (try simp only [IntKind.wrap_u32]); omega)
     · exact congrArg (Value.int .u32) (by unfold tS; (try simp only [IntKind.wrap_u32]); omega)
    case measure => simp [intOf]; omega
  · obtain rfl : j = 64 := by omega
    have hfin : comp s b = [(y0 + v0) % 4294967296, (y1 + v1) % 4294967296, (y2 + v2) % 4294967296, (y3 + v3) % 4294967296, (y4 + v4) % 4294967296, (y5 + v5) % 4294967296, (y6 + v6) % 4294967296, (y7 + v7) % 4294967296] := by
     unfold comp blockS; rw [HW.out, hv, HS2.out]; rfl
    have r0 := hR.1
    rw [HS2.out] at r0
    have c0 : wr.cell? ⟨w.heap.size, 0, none⟩ = some (.int .u32 (y0 : Int)) := r0.cell rfl
    have c1 : wr.cell? ⟨w.heap.size, 1, none⟩ = some (.int .u32 (y1 : Int)) := r0.cell rfl
    have c2 : wr.cell? ⟨w.heap.size, 2, none⟩ = some (.int .u32 (y2 : Int)) := r0.cell rfl
    have c3 : wr.cell? ⟨w.heap.size, 3, none⟩ = some (.int .u32 (y3 : Int)) := r0.cell rfl
    have c4 : wr.cell? ⟨w.heap.size, 4, none⟩ = some (.int .u32 (y4 : Int)) := r0.cell rfl
    have c5 : wr.cell? ⟨w.heap.size, 5, none⟩ = some (.int .u32 (y5 : Int)) := r0.cell rfl
    have c6 : wr.cell? ⟨w.heap.size, 6, none⟩ = some (.int .u32 (y6 : Int)) := r0.cell rfl
    have c7 : wr.cell? ⟨w.heap.size, 7, none⟩ = some (.int .u32 (y7 : Int)) := r0.cell rfl
    have HF := lH hfin
    have HV := lH hv
    have HR := lH hR
    have HR2 := lH hR.2.2.1
    clear hfin hv hR r0
    have hZ : (#[Value.int .u32 (((y0 : Int) + (v0 : Int)) % 4294967296), Value.int .u32 (((y1 : Int) + (v1 : Int)) % 4294967296), Value.int .u32 (((y2 : Int) + (v2 : Int)) % 4294967296), Value.int .u32 (((y3 : Int) + (v3 : Int)) % 4294967296), Value.int .u32 (((y4 : Int) + (v4 : Int)) % 4294967296), Value.int .u32 (((y5 : Int) + (v5 : Int)) % 4294967296), Value.int .u32 (((y6 : Int) + (v6 : Int)) % 4294967296), Value.int .u32 (((y7 : Int) + (v7 : Int)) % 4294967296)] : Array Value) = wordsW (comp s b) := by rw [HF.out]; simp [wordsW]
    have HZ := lH hZ
    clear hZ
    have hl : (comp s b).length = 8 := by rw [HF.out]; rfl
    have iv : (Tryz.prog.info? 249).map (·.size) = some (wordsW (comp s b)).size := by rw [wordsW_size, hl]; exact infoState
    have hz : (wordsW (List.replicate 8 0)).size = (wordsW (comp s b)).size := by rw [wordsW_size (comp s b), hl]; rfl
    have IV := lH iv
    have HZ2 := lH hz
    clear hl iv hz
    go_wp2_with (refine wpList_store_row rfl 249 (.tmp 4) (.tmp 108) rfl (w.heap.size + 1 + 1) (wordsW (comp s b)) rfl (congrArg Value.agg HZ.out) 249 _ HR2.out IV.out HZ2.out (wordsW_one _) ?_)
    refine bodyPost_ret (v := .agg (wordsW (comp s b))) ?_ (by rfl) ?_
    · exact results_cell_row (p := 4) (ty := 249) rfl _ _ (w.heap.size + 1 + 1) 249 (wordsW (comp s b)) _ _ rfl (setRow_heap _ _ _ _ 249 _ HR2.out) Tryz.underlying249 rfl IV.out
    · exact ⟨rfl, below_setRow HR.out.2.2.2.2 (by omega) _⟩
theorem comp_len (s : List Nat) (b : List UInt8) (hs : s.length = 8) : (comp s b).length = 8 := by unfold comp blockS; rw [addW_len, hs]
theorem addW_small (h v : List Nat) (sh : Small h) : ∀ j, Small (addW h v j)
 | 0 => sh
 | j + 1 => (addW_small h v sh j).set_ (Nat.mod_lt _ (by omega))
theorem comp_small (s : List Nat) (b : List UInt8) (ss : Small s) : Small (comp s b) := addW_small _ _ ss 8
def hashV (s : List Nat) (b : List UInt8) (n : Nat) : List Value := (s.map fun (x : Nat) => Value.int .u32 (x : Int)) ++ (cellsB b ++ [.int .u64 (n : Int)])
def hashL (s : List Nat) (b : List UInt8) (n : Nat) : List Lit := ((s.map fun (x : Nat) => (x : Int)).map (Lit.int .u32)) ++ ((b.map fun x => (x.toNat : Int)).map (Lit.int .u8) ++ [.int .u64 (n : Int)])
theorem hashV_len (s : List Nat) (b : List UInt8) (n : Nat) (hs : s.length = 8) (hb : b.length = 64) : (hashV s b n).length = 73 := by simp [hashV, cellsB, hs, hb]
theorem words_ints (s : List Nat) : (s.map fun (x : Nat) => Value.int .u32 (x : Int)) = (s.map fun (x : Nat) => (x : Int)).map (Value.int .u32) := by simp
theorem wf_u32 (s : List Nat) (hs : Small s) : ∀ z ∈ s.map (fun (x : Nat) => (x : Int)), (Lit.int .u32 z).wf = true := by
 intro z hz
 obtain ⟨x, hx, rfl⟩ := List.mem_map.1 hz
 have := hs x hx
 have hm : IntKind.u32.min = 0 := rfl
 have hM : IntKind.u32.max = 4294967295 := rfl
 simp [Lit.wf, hm, hM]
 omega
theorem keyLits_hash (s : List Nat) (b : List UInt8) (n : Nat) (hs : s.length = 8) (ss : Small s) (hb : b.length = 64) (hn : n < 18446744073709551616) (d : Nat) :
 Tryz.prog.keyLits (d + 3) 254 (hashV s b n) = some (hashL s b n) := by
 have k1 : Tryz.prog.keyLits (d + 2) 249 (s.map fun (x : Nat) => Value.int .u32 (x : Int)) = some ((s.map fun (x : Nat) => (x : Int)).map (Lit.int .u32)) := by
  rw [words_ints]
  exact keyLits_ints Tryz.underlying249 Tryz.underlying30 (by kernel_rfl) (by kernel_rfl) _ (by simp [hs]) (wf_u32 s ss) d
 have k2 : Tryz.prog.keyLits (d + 2) 252 (cellsB b) = some ((b.map fun x => (x.toNat : Int)).map (Lit.int .u8)) := by
  rw [bytes_ints]
  exact keyLits_ints Tryz.underlying252 Tryz.underlying5 (by kernel_rfl) (by kernel_rfl) _ (by simp [hb]) (wf_u8 b) d
 have k3 : Tryz.prog.keyLits (d + 2) 89 [.int .u64 (n : Int)] = some [.int .u64 (n : Int)] := by
  unfold Program.keyLits
  simp only [Tryz.underlying89]
  have : (Lit.int .u64 (n : Int)).wf = true := by
   have hm : IntKind.u64.min = 0 := rfl
   have hM : IntKind.u64.max = 18446744073709551615 := rfl
   simp [Lit.wf, hm, hM]; omega
  simp [this]
 have c1 : Tryz.prog.cellsOf 249 = 8 := by kernel_rfl
 have c2 : Tryz.prog.cellsOf 252 = 64 := by kernel_rfl
 have c3 : Tryz.prog.cellsOf 89 = 1 := by kernel_rfl
 have c4 : Tryz.prog.cellsOf 254 = 73 := by kernel_rfl
 have t1 : ((hashV s b n).drop 0).take 8 = s.map fun (x : Nat) => Value.int .u32 (x : Int) := by
  unfold hashV
  rw [List.drop_zero, List.take_append_of_le_length (by simp [hs]), List.take_of_length_le (by simp [hs])]
 have t2 : ((hashV s b n).drop 8).take 64 = cellsB b := by
  unfold hashV
  rw [List.drop_append_of_le_length (by simp [hs]), List.drop_of_length_le (by simp [hs]), List.nil_append, List.take_append_of_le_length (by simp [cellsB, hb]), List.take_of_length_le (by simp [cellsB, hb])]
 have t3 : ((hashV s b n).drop 72).take 1 = [.int .u64 (n : Int)] := by
  unfold hashV
  rw [<- List.append_assoc, List.drop_append_of_le_length (by simp [cellsB, hs, hb]), List.drop_of_length_le (by simp [cellsB, hs, hb])]
  rfl
 unfold Program.keyLits
 simp only [Tryz.underlying254]
 rw [if_pos ⟨by rw [hashV_len s b n hs hb, c4], by kernel_rfl⟩]
 simp only [List.mapM_cons, List.mapM_nil, c1, c2, c3, t1, t2, t3, k1, k2, k3]
 simp [hashL]
theorem eql_hash (s s' : List Nat) (b b' : List UInt8) (n n' : Nat) (hs : s.length = 8) (ss : Small s) (hb : b.length = 64) (hn : n < 18446744073709551616) (hs' : s'.length = 8) (ss' : Small s') (hb' : b'.length = 64) (hn' : n' < 18446744073709551616) (w : World) :
 ∃ r : Bool, (binOp .eql 254 (.agg (hashV s b n).toArray) (.agg (hashV s' b' n').toArray)).run Tryz.prog w = .ok (.bool r) w /\ (r = true ↔ hashL s b n = hashL s' b' n') := by
 have c4 : Tryz.prog.cellsOf 254 = 73 := by kernel_rfl
 have fm : ∀ (s : List Nat) (b : List UInt8) (n : Nat), s.length = 8 -> b.length = 64 -> (Value.agg (hashV s b n).toArray).formed Tryz.prog 254 = true := by
  intro s b n h1 h2
  have h3 : (hashV s b n).toArray.size = 73 := by rw [List.size_toArray]; exact hashV_len s b n h1 h2
  unfold Value.formed
  simp only [Tryz.underlying254, h3, c4]
  rfl
 obtain ⟨r, hr, hiff⟩ := run_equalIn_deep (P := Tryz.prog) 9997 3 254 (by kernel_rfl) w 3 3 (.agg (hashV s b n).toArray) (.agg (hashV s' b' n').toArray) _ _ (fm s b n hs hb) (fm s' b' n' hs' hb')
  (keyLits_hash s b n hs ss hb hn 0) (keyLits_hash s' b' n' hs' ss' hb' hn' 0)
 have he2 : (Op.equal 254 (.agg (hashV s b n).toArray) (.agg (hashV s' b' n').toArray)).run Tryz.prog w = .ok r w := hr
 exact ⟨r, by simp only [binOp, Sem.run_bind, he2, Result.andThen_ok, Sem.run_pure], hiff⟩
theorem small_zero (n : Nat) : Small (List.replicate n 0) := by
 intro x hx
 have := List.eq_of_mem_replicate hx
 omega
theorem eql_live (s : List Nat) (b : List UInt8) (n : Nat) (hs : s.length = 8) (ss : Small s) (hb : b.length = 64) (hn : n < 18446744073709551616) (h : 0 < n \/ s ≠ List.replicate 8 0) (w : World) :
 (binOp .eql 254 (.agg (hashV s b n).toArray) (.agg (hashV (List.replicate 8 0) (List.replicate 64 0) 0).toArray)).run Tryz.prog w = .ok (.bool false) w := by
 obtain ⟨r, hr, hiff⟩ := eql_hash s (List.replicate 8 0) b (List.replicate 64 0) n 0 hs ss hb hn (by simp) (small_zero 8) (by simp) (by omega) w
 have hne : r = false := by
  rw [<- Bool.not_eq_true, hiff]
  intro he
  unfold hashL at he
  have e1 := List.append_inj he (by simp [hs])
  have e2 := List.append_inj e1.2 (by simp [hb])
  rcases h with h | h
  · have := e2.2
    simp at this
    omega
  · apply h
    have := congrArg (List.map fun l => match l with | Lit.int _ z => z.toNat | _ => 0) e1.1
    simpa [List.map_map, Function.comp_def] using this
 rw [hr, hne]
theorem guard_hash (xs ys : Array Value) (x y : Operand) (w : World) : (eqGuard .eql 254 x y (.agg xs) (.agg ys)).run Tryz.prog w = .ok () w := by
 unfold eqGuard
 simp
theorem builtHash : Tryz.prog.built 254 [] = some (hashV (List.replicate 8 0) (List.replicate 64 0) 0).toArray := by kernel_rfl
theorem infoHash : (Tryz.prog.info? 254).map (·.size) = some 73 := by kernel_rfl
def HashW (w : World) (g : Nat) (s : List Nat) (b : List UInt8) (n : Nat) : Prop :=
 w.heap[g]? = some (.cells (hashV s b n).toArray 254 (0, 0)) /\ s.length = 8 /\ Small s /\ b.length = 64
theorem HashW.load {w : World} {g n : Nat} {s : List Nat} {b : List UInt8} (h : HashW w g s b n) : (loadVar 254 ⟨g, 0, none⟩).run Tryz.prog w = .ok (.agg (hashV s b n).toArray) w :=
 run_loadVar_row w g _ 254 _ (0, 0) _ h.1 Tryz.underlying254 rfl (by rw [List.size_toArray, hashV_len s b n h.2.1 h.2.2.2]; exact infoHash)
theorem isNone_live (g n : Nat) (s : List Nat) (b : List UInt8) (w : World) (h : HashW w g s b n) (hn : n < 18446744073709551616) (hl : 0 < n \/ s ≠ List.replicate 8 0) :
 Calls Tryz.prog 177 #[.pointer (some ⟨g, 0, none⟩)] w fun e w' => e = .returned (.bool false) /\ w = w' := by
 have q1 := h.load
 have q2 := eql_live s b n h.2.1 h.2.2.1 h.2.2.2 hn hl w
 have q3 := guard_hash (hashV s b n).toArray (hashV (List.replicate 8 0) (List.replicate 64 0) 0).toArray
 generalize (hashV s b n).toArray = V at q1 q2 q3
 generalize hZ : (hashV (List.replicate 8 0) (List.replicate 64 0) 0).toArray = Z at q2 q3
 have q4 : Tryz.prog.built 254 [] = some Z := by rw [<- hZ]; exact builtHash
 have Q1 := lH q1
 have Q2 := lH q2
 have Q3 := lH q3
 have Q4 := lH q4
 clear h hn hl q1 q2 q3 q4 hZ
 go_enter Tryz.func177, Tryz.ntmps177
 go_wp2_with (first
  | (refine wpList_load_rowG rfl 254 (.tmp 7) rfl g rfl (.agg V) Q1.out ?_)
  | (refine wpList_buildG rfl 254 rfl Z Q4.out ?_)
  | (refine wpList_eqlG rfl 254 254 (.tmp 8) (.tmp 9) rfl (.agg V) (.agg Z) false rfl rfl (Q3.out _ _ _) Q2.out ?_))
 go_ret
 exact ⟨rfl, rfl⟩
def blk (D : List UInt8) (k : Nat) : List UInt8 := (D.drop (64 * k)).take 64
def mixN (D : List UInt8) : Nat -> List Nat
 | 0 => H0L
 | k + 1 => comp (mixN D k) (blk D k)
theorem blk_app (D E : List UInt8) (k : Nat) (h : 64 * (k + 1) <= D.length) : blk (D ++ E) k = blk D k := by
 unfold blk
 rw [List.drop_append_of_le_length (by omega), List.take_append_of_le_length (by rw [List.length_drop]; omega)]
theorem mixN_app (D E : List UInt8) : ∀ k, 64 * k <= D.length -> mixN (D ++ E) k = mixN D k
 | 0, _ => rfl
 | k + 1, h => by rw [mixN, mixN, mixN_app D E k (by omega), blk_app D E k h]
theorem H0L_small : Small H0L := by
 intro x hx
 simp only [H0L, List.mem_cons, List.not_mem_nil, or_false] at hx
 omega
theorem mixN_len (D : List UInt8) : ∀ k, (mixN D k).length = 8
 | 0 => rfl
 | k + 1 => comp_len _ _ (mixN_len D k)
theorem mixN_small (D : List UInt8) : ∀ k, Small (mixN D k)
 | 0 => H0L_small
 | k + 1 => comp_small _ _ (mixN_small D k)
def HashD (w : World) (g : Nat) (D : List UInt8) : Prop :=
 ∃ b, HashW w g (mixN D (D.length / 64)) b D.length /\ b.take (D.length % 64) = D.drop (64 * (D.length / 64))
theorem HashD.live {w : World} {g : Nat} {D : List UInt8} : 0 < D.length \/ mixN D (D.length / 64) ≠ List.replicate 8 0 := by
 rcases Nat.eq_zero_or_pos D.length with h | h
 · right
   rw [List.eq_nil_of_length_eq_zero h]
   decide
 · exact .inl h
theorem HashW.kept {w w' : World} {g n : Nat} {s : List Nat} {b : List UInt8} (h : HashW w g s b n) (hk : w'.heap[g]? = w.heap[g]?) : HashW w' g s b n := ⟨hk.trans h.1, h.2⟩
theorem HashW.lt {w : World} {g n : Nat} {s : List Nat} {b : List UInt8} (h : HashW w g s b n) : g < w.heap.size := (Array.getElem?_eq_some_iff.1 h.1).1
theorem HashD.kept {w w' : World} {g : Nat} {D : List UInt8} (h : HashD w g D) (hk : w'.heap[g]? = w.heap[g]?) : HashD w' g D := by
 obtain ⟨b, h1, h2⟩ := h
 exact ⟨b, h1.kept hk, h2⟩
theorem HashD.lt {w : World} {g : Nat} {D : List UInt8} (h : HashD w g D) : g < w.heap.size := by
 obtain ⟨b, h1, h2⟩ := h
 exact h1.lt
theorem HashD.below {w w' : World} {g B : Nat} {D : List UInt8} (h : HashD w g D) (hb : Below B w w') (hg : g < B) : HashD w' g D := h.kept (hb.block g hg)
theorem HashD.grown {w w' : World} {g : Nat} {D : List UInt8} {row : Option Nat} (h : HashD w g D) (hb : w.grownBy w' row) (hg : some g ≠ row) : HashD w' g D := h.kept (hb.block g h.lt hg)
theorem hashV_at (s : List Nat) (b : List UInt8) (n i : Nat) (x : UInt8) (hs : s.length = 8) (hx : b[i]? = some x) : (hashV s b n)[8 + i]? = some (.int .u8 (x.toNat : Int)) := by
 have hi : i < b.length := (List.getElem?_eq_some_iff.1 hx).1
 unfold hashV
 rw [List.getElem?_append_right (by simp [hs]), List.getElem?_append_left (by simp [cellsB, hs]; omega)]
 simp [cellsB, hs, hx]
theorem hashV_size (s : List Nat) (b : List UInt8) (n : Nat) (hs : s.length = 8) (hb : b.length = 64) : (hashV s b n)[72]? = some (.int .u64 (n : Int)) := by
 unfold hashV
 rw [<- List.append_assoc, List.getElem?_append_right (by simp [cellsB, hs, hb])]
 simp [cellsB, hs, hb]
theorem hashV_setSize (s : List Nat) (b : List UInt8) (n m : Nat) (hs : s.length = 8) (hb : b.length = 64) : (hashV s b n).set 72 (.int .u64 (m : Int)) = hashV s b m := by
 unfold hashV
 rw [<- List.append_assoc, List.set_append_right _ _ (by simp [cellsB, hs, hb]), <- List.append_assoc]
 simp [cellsB, hs, hb]
theorem hashV_splice (s : List Nat) (b e : List UInt8) (n x : Nat) (hs : s.length = 8) (hb : b.length = 64) (hx : x + e.length <= 64) : splice (hashV s b n) (8 + x) (cellsB e) = hashV s (splice b x e) n := by
 unfold splice hashV
 have l1 : (s.map fun (x : Nat) => Value.int .u32 (x : Int)).length = 8 := by simp [hs]
 have l2 : (cellsB b).length = 64 := by simp [cellsB, hb]
 generalize (s.map fun (x : Nat) => Value.int .u32 (x : Int)) = S at *
 rw [List.take_append, List.drop_append, l1, List.take_of_length_le (by omega), show 8 + x - 8 = x by omega, List.take_append_of_le_length (by omega), List.drop_of_length_le (by omega), List.nil_append,
  cellsB_length, show 8 + x + e.length - 8 = x + e.length by omega, List.drop_append_of_le_length (by omega)]
 simp [cellsB, List.map_append, List.map_take, List.map_drop]
theorem hashV_state (s s' : List Nat) (b : List UInt8) (n : Nat) (hs : s.length = 8) : (s'.map fun (x : Nat) => Value.int .u32 (x : Int)) ++ (hashV s b n).drop 8 = hashV s' b n := by
 unfold hashV
 rw [List.drop_append_of_le_length (by simp [hs]), List.drop_of_length_le (by simp [hs]), List.nil_append]
theorem piece_in (D b e : List UInt8) (hb : b.length = 64) (ht : b.take (D.length % 64) = D.drop (64 * (D.length / 64))) (he : D.length % 64 + e.length < 64) :
 (D ++ e).length / 64 = D.length / 64 /\ (D ++ e).length % 64 = D.length % 64 + e.length /\ mixN (D ++ e) ((D ++ e).length / 64) = mixN D (D.length / 64) /\ (splice b (D.length % 64) e).take ((D ++ e).length % 64) = (D ++ e).drop (64 * ((D ++ e).length / 64)) := by
 have e1 : (D ++ e).length / 64 = D.length / 64 := by rw [List.length_append]; omega
 have e2 : (D ++ e).length % 64 = D.length % 64 + e.length := by rw [List.length_append]; omega
 refine ⟨e1, e2, by rw [e1, mixN_app D e _ (by omega)], ?_⟩
 rw [e1, e2, List.drop_append_of_le_length (by omega), <- ht]
 unfold splice
 rw [<- List.append_assoc, List.take_append_of_le_length (by simp; omega), List.take_of_length_le (by simp; omega)]
theorem piece_end (D b e : List UInt8) (hb : b.length = 64) (ht : b.take (D.length % 64) = D.drop (64 * (D.length / 64))) (he : D.length % 64 + e.length = 64) :
 (D ++ e).length / 64 = D.length / 64 + 1 /\ (D ++ e).length % 64 = 0 /\ mixN (D ++ e) ((D ++ e).length / 64) = comp (mixN D (D.length / 64)) (splice b (D.length % 64) e) /\ (splice b (D.length % 64) e).take ((D ++ e).length % 64) = (D ++ e).drop (64 * ((D ++ e).length / 64)) := by
 have e1 : (D ++ e).length / 64 = D.length / 64 + 1 := by rw [List.length_append]; omega
 have e2 : (D ++ e).length % 64 = 0 := by rw [List.length_append]; omega
 refine ⟨e1, e2, ?_, ?_⟩
 · rw [e1, mixN, mixN_app D e _ (by omega)]
   congr 1
   unfold blk splice
   rw [List.drop_append_of_le_length (by omega), <- ht, List.take_of_length_le (by simp; omega), List.drop_of_length_le (by omega), List.append_nil]
 · rw [e1, e2, List.drop_of_length_le (by simp; omega)]
   rfl
theorem splice_len (b e : List UInt8) (x : Nat) (h : x + e.length <= b.length) : (splice b x e).length = b.length := length_splice b x e h
end Go.Proofs.YthoebjekkfhhgaaGreat
