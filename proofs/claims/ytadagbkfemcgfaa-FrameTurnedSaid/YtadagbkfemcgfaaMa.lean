/-
  Own work. Words of 32 bits: contracts of sha's own rotation, sums and choices.
-/
import Derived.Test.YtadagbkfemcgfaaBlock
import Derived.Lib.EndianBits
import Derived.Laws.BitsAllLaws
import Derived.Great.BuildSlice
import Derived.Laws.CopyOwn
import Derived.WalkSmall
namespace Go.Proofs.Ytadagbkfemcgfaa
open Go.RowKit
set_option linter.unusedVariables false

/-- A call that only reads, and hands back v. -/
def RetQ (w : World) (v : Value) (e : Ending) (w' : World) : Prop := e = .returned v ∧ ∃ k, w' = w.drewN k

theorem rotate_any (x n : Nat) (w : World) (hx : x < 4294967296) (hn : n ≤ 32) :
    Calls Try.prog 131 #[.int .u32 (x : Int), .int .i64 (n : Int)] w (RetQ w (.int .u32 ((rotr n x : Nat) : Int))) := by
  have hr := rotr_or n x hn hx
  have hR : bits .or .u32 ((x : Int) / 2 ^ n) ((x : Int) * 2 ^ (32 - n) % 4294967296) = ((rotr n x : Nat) : Int) := by
    have e1 : ((x : Int) / 2 ^ n) = ((x / 2 ^ n : Nat) : Int) := by simp
    have e2 : ((x : Int) * 2 ^ (32 - n) % 4294967296) = ((x * 2 ^ (32 - n) % 4294967296 : Nat) : Int) := by simp
    rw [e1, e2, u32_or_nat _ _ (Nat.lt_of_le_of_lt (Nat.div_le_self _ _) hx) (Nat.mod_lt _ (by omega)), hr]
  have HR := Lib.hid hR
  clear hr hR
  go_enter Try.func131, Try.ntmps131
  go_wp2_with fail
  go_quiet (fail)
  go_wp2_with fail
  go_ret
  exact ⟨congrArg (fun z => Ending.returned (Value.int .u32 z)) HR.out, _, rfl⟩

theorem xor32 (a b : Nat) (ha : a < 4294967296) (hb : b < 4294967296) : bits .xor .u32 (a : Int) (b : Int) = ((a ^^^ b : Nat) : Int) := u32_xor_nat a b ha hb
theorem and32 (a b : Nat) (ha : a < 4294967296) (hb : b < 4294967296) : bits .and .u32 (a : Int) (b : Int) = ((a &&& b : Nat) : Int) := u32_and_nat a b ha hb

theorem upper0_any (x : Nat) (w : World) (hx : x < 4294967296) :
    Calls Try.prog 115 #[.int .u32 (x : Int)] w (RetQ w (.int .u32 ((S0 x : Nat) : Int))) := by
  have h1 := rotr_lt 2 x (by omega) hx
  have h2 := rotr_lt 13 x (by omega) hx
  have h3 := rotr_lt 22 x (by omega) hx
  have hR : bits .xor .u32 (bits .xor .u32 ((rotr 2 x : Nat) : Int) ((rotr 13 x : Nat) : Int)) ((rotr 22 x : Nat) : Int) = ((S0 x : Nat) : Int) := by
    rw [xor32 _ _ h1 h2, xor32 _ _ (xor_lt32 h1 h2) h3]; rfl
  have HR := Lib.hid hR
  clear hR
  go_enter Try.func115, Try.ntmps115
  go_wp2_with (first
    | (go_at_call_of 131 (Value.int IntKind.i64 2); refine (rotate_any _ 2 _ hx (by omega)).mono ?_; rintro e w' ⟨rfl, k1, rfl⟩)
    | (go_at_call_of 131 (Value.int IntKind.i64 13); refine (rotate_any _ 13 _ hx (by omega)).mono ?_; rintro e w' ⟨rfl, k2, rfl⟩)
    | (go_at_call_of 131 (Value.int IntKind.i64 22); refine (rotate_any _ 22 _ hx (by omega)).mono ?_; rintro e w' ⟨rfl, k3, rfl⟩))
  go_ret
  exact ⟨congrArg (fun z => Ending.returned (Value.int .u32 z)) HR.out, k1 + k2 + k3, by simp⟩
theorem upper1_any (x : Nat) (w : World) (hx : x < 4294967296) :
    Calls Try.prog 113 #[.int .u32 (x : Int)] w (RetQ w (.int .u32 ((S1 x : Nat) : Int))) := by
  have h1 := rotr_lt 6 x (by omega) hx
  have h2 := rotr_lt 11 x (by omega) hx
  have h3 := rotr_lt 25 x (by omega) hx
  have hR : bits .xor .u32 (bits .xor .u32 ((rotr 6 x : Nat) : Int) ((rotr 11 x : Nat) : Int)) ((rotr 25 x : Nat) : Int) = ((S1 x : Nat) : Int) := by
    rw [xor32 _ _ h1 h2, xor32 _ _ (xor_lt32 h1 h2) h3]; rfl
  have HR := Lib.hid hR
  clear hR
  go_enter Try.func113, Try.ntmps113
  go_wp2_with (first
    | (go_at_call_of 131 (Value.int IntKind.i64 6); refine (rotate_any _ 6 _ hx (by omega)).mono ?_; rintro e w' ⟨rfl, k1, rfl⟩)
    | (go_at_call_of 131 (Value.int IntKind.i64 11); refine (rotate_any _ 11 _ hx (by omega)).mono ?_; rintro e w' ⟨rfl, k2, rfl⟩)
    | (go_at_call_of 131 (Value.int IntKind.i64 25); refine (rotate_any _ 25 _ hx (by omega)).mono ?_; rintro e w' ⟨rfl, k3, rfl⟩))
  go_ret
  exact ⟨congrArg (fun z => Ending.returned (Value.int .u32 z)) HR.out, k1 + k2 + k3, by simp⟩
theorem lower0_any (x : Nat) (w : World) (hx : x < 4294967296) :
    Calls Try.prog 129 #[.int .u32 (x : Int)] w (RetQ w (.int .u32 ((s0 x : Nat) : Int))) := by
  have h1 := rotr_lt 7 x (by omega) hx
  have h2 := rotr_lt 18 x (by omega) hx
  have hR : bits .xor .u32 (bits .xor .u32 ((rotr 7 x : Nat) : Int) ((rotr 18 x : Nat) : Int)) ((x : Int) / 8) = ((s0 x : Nat) : Int) := by
    rw [show ((x : Int) / 8) = ((x / 8 : Nat) : Int) by omega, xor32 _ _ h1 h2, xor32 _ _ (xor_lt32 h1 h2) (by omega)]; rfl
  have HR := Lib.hid hR
  clear hR
  go_enter Try.func129, Try.ntmps129
  go_wp2_with (first
    | (go_at_call_of 131 (Value.int IntKind.i64 7); refine (rotate_any _ 7 _ hx (by omega)).mono ?_; rintro e w' ⟨rfl, k1, rfl⟩)
    | (go_at_call_of 131 (Value.int IntKind.i64 18); refine (rotate_any _ 18 _ hx (by omega)).mono ?_; rintro e w' ⟨rfl, k2, rfl⟩))
  go_ret
  exact ⟨congrArg (fun z => Ending.returned (Value.int .u32 z)) HR.out, k1 + k2, by simp⟩
theorem lower1_any (x : Nat) (w : World) (hx : x < 4294967296) :
    Calls Try.prog 130 #[.int .u32 (x : Int)] w (RetQ w (.int .u32 ((s1 x : Nat) : Int))) := by
  have h1 := rotr_lt 17 x (by omega) hx
  have h2 := rotr_lt 19 x (by omega) hx
  have hR : bits .xor .u32 (bits .xor .u32 ((rotr 17 x : Nat) : Int) ((rotr 19 x : Nat) : Int)) ((x : Int) / 1024) = ((s1 x : Nat) : Int) := by
    rw [show ((x : Int) / 1024) = ((x / 1024 : Nat) : Int) by omega, xor32 _ _ h1 h2, xor32 _ _ (xor_lt32 h1 h2) (by omega)]; rfl
  have HR := Lib.hid hR
  clear hR
  go_enter Try.func130, Try.ntmps130
  go_wp2_with (first
    | (go_at_call_of 131 (Value.int IntKind.i64 17); refine (rotate_any _ 17 _ hx (by omega)).mono ?_; rintro e w' ⟨rfl, k1, rfl⟩)
    | (go_at_call_of 131 (Value.int IntKind.i64 19); refine (rotate_any _ 19 _ hx (by omega)).mono ?_; rintro e w' ⟨rfl, k2, rfl⟩))
  go_ret
  exact ⟨congrArg (fun z => Ending.returned (Value.int .u32 z)) HR.out, k1 + k2, by simp⟩

theorem not32 (e : Nat) (he : e < 4294967296) : 4294967295 ^^^ e = 4294967295 - e := by
  apply Nat.eq_of_testBit_eq
  intro i
  have h := Nat.testBit_two_pow_sub_succ (n := 32) (x := e) he i
  rw [show 4294967295 - e = 2 ^ 32 - (e + 1) by omega, h, Nat.testBit_xor, show 4294967295 = 2 ^ 32 - 1 by rfl, Nat.testBit_two_pow_sub_one]
  by_cases hi : i < 32
  · simp [hi]
  · have : e.testBit i = false := Nat.testBit_lt_two_pow (Nat.lt_of_lt_of_le he (Nat.pow_le_pow_right (n := 2) (by omega) (show 32 ≤ i by omega)))
    simp [hi, this]
theorem choose_any (e f g : Nat) (w : World) (he : e < 4294967296) (hf : f < 4294967296) (hg : g < 4294967296) :
    Calls Try.prog 114 #[.int .u32 (e : Int), .int .u32 (f : Int), .int .u32 (g : Int)] w fun e' w' => e' = .returned (.int .u32 ((chS e f g : Nat) : Int)) ∧ w = w' := by
  have hR : bits .xor .u32 (bits .and .u32 (e : Int) (f : Int)) (bits .and .u32 (bits .xor .u32 IntKind.u32.max (e : Int)) (g : Int)) = ((chS e f g : Nat) : Int) := by
    have q : bits .xor .u32 IntKind.u32.max (e : Int) = ((4294967295 - e : Nat) : Int) := by
      rw [show IntKind.u32.max = ((4294967295 : Nat) : Int) from rfl, xor32 _ _ (by omega) he, not32 e he]
    rw [q, and32 _ _ he hf, and32 _ _ (by omega) hg, xor32 _ _ (and_lt32 he) (and_lt32 (by omega))]
    rfl
  have HR := Lib.hid hR
  clear hR
  go_enter Try.func114, Try.ntmps114
  go_wp2_with fail
  go_ret
  exact ⟨congrArg (fun z => Ending.returned (Value.int .u32 z)) HR.out, rfl⟩
theorem majority_any (a b c : Nat) (w : World) (ha : a < 4294967296) (hb : b < 4294967296) (hc : c < 4294967296) :
    Calls Try.prog 116 #[.int .u32 (a : Int), .int .u32 (b : Int), .int .u32 (c : Int)] w fun e' w' => e' = .returned (.int .u32 ((majS a b c : Nat) : Int)) ∧ w = w' := by
  have hR : bits .xor .u32 (bits .xor .u32 (bits .and .u32 (a : Int) (b : Int)) (bits .and .u32 (a : Int) (c : Int))) (bits .and .u32 (b : Int) (c : Int)) = ((majS a b c : Nat) : Int) := by
    rw [and32 _ _ ha hb, and32 _ _ ha hc, and32 _ _ hb hc, xor32 _ _ (and_lt32 ha) (and_lt32 ha), xor32 _ _ (xor_lt32 (and_lt32 ha) (and_lt32 ha)) (and_lt32 hb)]
    rfl
  have HR := Lib.hid hR
  clear hR
  go_enter Try.func116, Try.ntmps116
  go_wp2_with fail
  go_ret
  exact ⟨congrArg (fun z => Ending.returned (Value.int .u32 z)) HR.out, rfl⟩

/-- The word of four bytes, the first one the greatest. -/
def wordB (b : List UInt8) (k : Nat) : Nat := (((b.getD k 0).toNat * 256 + (b.getD (k + 1) 0).toNat) * 256 + (b.getD (k + 2) 0).toNat) * 256 + (b.getD (k + 3) 0).toNat
theorem byte_at (l : List UInt8) (i : Nat) (h : i < l.length) : ∃ x, l[i]? = some x ∧ l.getD i 0 = x := ⟨l[i], List.getElem?_eq_getElem h, by simp [List.getD, h]⟩
theorem wordB_lt (b : List UInt8) (k : Nat) : wordB b k < 4294967296 := by
  have := (b.getD k 0).toNat_lt
  have := (b.getD (k + 1) 0).toNat_lt
  have := (b.getD (k + 2) 0).toNat_lt
  have := (b.getD (k + 3) 0).toNat_lt
  unfold wordB
  omega

theorem or_add (k a b : Nat) (h : b < 2 ^ k) : a * 2 ^ k ||| b = a * 2 ^ k + b := by
  have := Nat.two_pow_add_eq_or_of_lt h a
  rw [Nat.mul_comm]
  exact this.symm
theorem or4 (a b c d : Nat) (ha : a < 256) (hb : b < 256) (hc : c < 256) (hd : d < 256) :
    bits .or .u32 (bits .or .u32 (bits .or .u32 ((a : Int) * 16777216) ((b : Int) * 65536)) ((c : Int) * 256)) (d : Int) = ((((a * 256 + b) * 256 + c) * 256 + d : Nat) : Int) := by
  have e1 : ((a : Int) * 16777216) = ((a * 16777216 : Nat) : Int) := by omega
  have e2 : ((b : Int) * 65536) = ((b * 65536 : Nat) : Int) := by omega
  have e3 : ((c : Int) * 256) = ((c * 256 : Nat) : Int) := by omega
  have o1 := or_add 24 a (b * 65536) (by omega)
  have o2 := or_add 16 (a * 256 + b) (c * 256) (by omega)
  have o3 := or_add 8 ((a * 256 + b) * 256 + c) d (by omega)
  simp only [Nat.reducePow] at o1 o2 o3
  rw [e1, e2, e3, u32_or_nat _ _ (by omega) (by omega), o1, show a * 16777216 + b * 65536 = (a * 256 + b) * 65536 by omega, u32_or_nat _ _ (by omega) (by omega), o2,
    show (a * 256 + b) * 65536 + c * 256 = ((a * 256 + b) * 256 + c) * 256 by omega, u32_or_nat _ _ (by omega) (by omega), o3]
theorem word_any (b : List UInt8) (k : Nat) (w : World) (hb : b.length = 64) (hk : k + 3 < 64) :
    Calls Try.prog 128 #[.agg (cellsB b).toArray, .int .i64 (k : Int)] w fun e w' => e = .returned (.int .u32 ((wordB b k : Nat) : Int)) ∧ Below w.heap.size w w' := by
  obtain ⟨x0, a0, b0⟩ := byte_at b k (by omega)
  obtain ⟨x1, a1, b1⟩ := byte_at b (k + 1) (by omega)
  obtain ⟨x2, a2, b2⟩ := byte_at b (k + 2) (by omega)
  obtain ⟨x3, a3, b3⟩ := byte_at b (k + 3) (by omega)
  have hrow := HasB.row w b 154
  have c : ∀ i x, b[i]? = some x → (w.alloc (.cells (cellsB b).toArray 154)).cell? ⟨w.heap.size, i, none⟩ = some (.int .u8 (x.toNat : Int)) := by
    intro i x hx
    obtain ⟨g, o, e, _, hc⟩ := hrow.2 (by omega)
    simp only [Option.some.injEq, Addr.mk.injEq, and_true] at e
    obtain ⟨rfl, rfl⟩ := e
    have := hc i x hx
    simpa using this
  have c0 := c _ _ a0
  have c1 := c _ _ a1
  have c2 := c _ _ a2
  have c3 := c _ _ a3
  have l0 : x0.toNat < 256 := x0.toNat_lt
  have l1 : x1.toNat < 256 := x1.toNat_lt
  have l2 : x2.toNat < 256 := x2.toNat_lt
  have l3 : x3.toNat < 256 := x3.toNat_lt
  have hv : wordB b k = ((x0.toNat * 256 + x1.toNat) * 256 + x2.toNat) * 256 + x3.toNat := by unfold wordB; rw [b0, b1, b2, b3]
  have HV := Lib.hid hv
  clear hrow c a0 a1 a2 a3 b0 b1 b2 b3 hv hb
  go_enter Try.func128, Try.ntmps128
  go_wp2_with fail
  go_quiet (fail)
  go_wp2_with fail
  go_ret
  exact ⟨congrArg (fun z => Ending.returned (Value.int .u32 z)) (by rw [HV.out]; exact or4 x0.toNat x1.toNat x2.toNat x3.toNat l0 l1 l2 l3), below_drewN ((Below.refl _ _).alloc (Nat.le_refl _) _) _⟩

/-- Words of 32 bits in a block. -/
def wordsW (l : List Nat) : Array Value := (l.map fun (x : Nat) => Value.int .u32 (x : Int)).toArray
def Ww (w : World) (g : Nat) (t : TypeId) (l : List Nat) : Prop := w.heap[g]? = some (.cells (wordsW l) t (0, 0))
theorem Ww.cell {w : World} {g i x : Nat} {t : TypeId} {l : List Nat} (h : Ww w g t l) (hx : l[i]? = some x) : w.cell? ⟨g, i, none⟩ = some (.int .u32 (x : Int)) := by
  rw [cell_of_row w g i _ t (0, 0) h]
  simp [wordsW, hx]
theorem Ww.frozen {w : World} {g : Nat} {t : TypeId} {l : List Nat} (h : Ww w g t l) (i : Nat) : w.frozen? ⟨g, i, none⟩ = false := frozen_of_row w g i _ t h
theorem Ww.set_ {w : World} {g i x : Nat} {t : TypeId} {l : List Nat} {y : Int} (h : Ww w g t l) (hy : y = (x : Int)) : Ww (w.setCell ⟨g, i, none⟩ (.int .u32 y)) g t (l.set i x) := by
  subst hy
  have := heap_setCell_same w g i _ t (.int .u32 (x : Int)) h
  unfold Ww
  rw [this]
  congr 2
  simp [wordsW, List.map_set]
theorem Ww.new (w : World) (l : List Nat) (t : TypeId) : Ww (w.alloc (.cells (wordsW l) t)) w.heap.size t l := heap_alloc_new w _
theorem Ww.lt {w : World} {g : Nat} {t : TypeId} {l : List Nat} (h : Ww w g t l) : g < w.heap.size := (Array.getElem?_eq_some_iff.1 h).1
theorem Ww.alloc {w : World} {g : Nat} {t : TypeId} {l : List Nat} (h : Ww w g t l) (o : Obj) : Ww (w.alloc o) g t l := (Below.heap_alloc w o g h.lt).trans h
theorem Ww.far {w : World} {g : Nat} {t : TypeId} {l : List Nat} (h : Ww w g t l) {p : Addr} (hp : g ≠ p.block) (u : Value) : Ww (w.setCell p u) g t l := (heap_setCell_other w p g u hp).trans h
theorem Ww.drewN {w : World} {g : Nat} {t : TypeId} {l : List Nat} (h : Ww w g t l) (n : Nat) : Ww (w.drewN n) g t l := h
theorem Ww.below {w w' : World} {g B : Nat} {t : TypeId} {l : List Nat} (h : Ww w g t l) (hb : Below B w w') (hg : g < B) : Ww w' g t l := (hb.block g hg).trans h
theorem wordsW_size (l : List Nat) : (wordsW l).size = l.length := by simp [wordsW]
theorem wordsW_one (l : List Nat) : (wordsW l).all (·.oneCell') = true := by
  rw [Array.all_eq_true]
  intro i hi
  simp [wordsW, Value.oneCell']
theorem Ww.row {w : World} {g : Nat} {t : TypeId} {l m : List Nat} (h : Ww w g t l) : Ww (w.setRow g (wordsW m)) g t m := setRow_heap w g _ _ t _ h
theorem Ww.rowFar {w : World} {g g' : Nat} {t : TypeId} {l : List Nat} (h : Ww w g t l) (hne : g ≠ g') (cs : Array Value) : Ww (w.setRow g' cs) g t l := (setRow_other w g' g cs hne).trans h

def H0L : List Nat := [0x6a09e667, 0xbb67ae85, 0x3c6ef372, 0xa54ff53a, 0x510e527f, 0x9b05688c, 0x1f83d9ab, 0x5be0cd19]
def keysL : List Nat := [0x428a2f98, 0x71374491, 0xb5c0fbcf, 0xe9b5dba5, 0x3956c25b, 0x59f111f1, 0x923f82a4, 0xab1c5ed5, 0xd807aa98, 0x12835b01, 0x243185be, 0x550c7dc3, 0x72be5d74, 0x80deb1fe, 0x9bdc06a7, 0xc19bf174, 0xe49b69c1, 0xefbe4786, 0x0fc19dc6, 0x240ca1cc, 0x2de92c6f, 0x4a7484aa, 0x5cb0a9dc, 0x76f988da, 0x983e5152, 0xa831c66d, 0xb00327c8, 0xbf597fc7, 0xc6e00bf3, 0xd5a79147, 0x06ca6351, 0x14292967, 0x27b70a85, 0x2e1b2138, 0x4d2c6dfc, 0x53380d13, 0x650a7354, 0x766a0abb, 0x81c2c92e, 0x92722c85, 0xa2bfe8a1, 0xa81a664b, 0xc24b8b70, 0xc76c51a3, 0xd192e819, 0xd6990624, 0xf40e3585, 0x106aa070, 0x19a4c116, 0x1e376c08, 0x2748774c, 0x34b0bcb5, 0x391c0cb3, 0x4ed8aa4a, 0x5b9cca4f, 0x682e6ff3, 0x748f82ee, 0x78a5636f, 0x84c87814, 0x8cc70208, 0x90befffa, 0xa4506ceb, 0xbef9a3f7, 0xc67178f2]
theorem infoU32 : (Try.prog.info? 92).map (·.size) = some 1 := by kernel_rfl
theorem infoState : (Try.prog.info? 151).map (·.size) = some 8 := by kernel_rfl
theorem infoWords : (Try.prog.info? 165).map (·.size) = some 64 := by kernel_rfl

theorem first_any (w : World) :
    Calls Try.prog 102 #[] w fun e w' => e = .returned (.agg (wordsW H0L)) ∧ Below w.heap.size w w' := by
  go_enter Try.func102, Try.ntmps102
  go_wp2_with (first
    | (refine wpList_buildFlatArr rfl 151 92 8 _ rfl .u32 (H0L.map fun (x : Nat) => (x : Int)) Try.underlying151 infoU32 (by kernel_rfl) rfl ?_)
    | (refine wpList_store_row rfl 151 (.tmp 0) (.tmp 1) rfl w.heap.size (wordsW H0L) rfl rfl 151 _ (heap_alloc_new w _) infoState (by rfl) (wordsW_one _) ?_))
  refine bodyPost_ret (v := .agg (wordsW H0L)) ?_ (by rfl) ?_
  · exact results_cell_row (p := 0) (ty := 151) rfl _ _ w.heap.size 151 (wordsW H0L) _ _ rfl (setRow_heap _ _ _ _ 151 _ (heap_alloc_new w _)) Try.underlying151 rfl infoState
  · exact ⟨rfl, below_setRow ((Below.refl _ _).alloc (Nat.le_refl _) _) (Nat.le_refl _) _⟩
theorem constants_any (w : World) :
    Calls Try.prog 111 #[] w fun e w' => e = .returned (.agg (wordsW keysL)) ∧ Below w.heap.size w w' := by
  go_enter Try.func111, Try.ntmps111
  go_wp2_with (first
    | (refine wpList_buildFlatArr rfl 165 92 64 _ rfl .u32 (keysL.map fun (x : Nat) => (x : Int)) Try.underlying165 infoU32 (by kernel_rfl) rfl ?_)
    | (refine wpList_store_row rfl 165 (.tmp 0) (.tmp 1) rfl w.heap.size (wordsW keysL) rfl rfl 165 _ (heap_alloc_new w _) infoWords (by rfl) (wordsW_one _) ?_))
  refine bodyPost_ret (v := .agg (wordsW keysL)) ?_ (by rfl) ?_
  · exact results_cell_row (p := 0) (ty := 165) rfl _ _ w.heap.size 165 (wordsW keysL) _ _ rfl (setRow_heap _ _ _ _ 165 _ (heap_alloc_new w _)) Try.underlying165 rfl infoWords
  · exact ⟨rfl, below_setRow ((Below.refl _ _).alloc (Nat.le_refl _) _) (Nat.le_refl _) _⟩
end Go.Proofs.Ytadagbkfemcgfaa
