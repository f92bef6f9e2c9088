/-
  Own work. The contract of mac's Raw.
-/
import Derived.Test.YtkpmfpbeidhcbaaKb
namespace Go.Proofs.Ytkpmfpbeidhcbaa
open Go.RowKit
set_option linter.unusedVariables false
set_option linter.unusedSimpArgs false

/-- RFC 2104's sum. -/
def macS (k b : List UInt8) : List UInt8 := sumS (xorB 92 (keyL k) ++ sumS (xorB 54 (keyL k) ++ b))
theorem macS_len (k b : List UInt8) : (macS k b).length = 32 := sum_len _
theorem keptG {w w' : World} {g k : Nat} {t : TypeId} {l : List UInt8} (h : Bw w k t l) (hg : w.grownBy w' (some g)) (hne : k ≠ g) : Bw w' k t l :=
  (hg.block k h.lt (by intro e; injection e; omega)).trans h

/-- The first half of Raw and Of: the key's block, the answer's place. -/
structure KeyW (w w2 : World) (q : Nat) (K : List UInt8) : Prop where
  bel : Below w.heap.size w w2
  ans : Bw w2 w.heap.size 30 (zer 32)
  key : Bw w2 q 45 K
  lt : w.heap.size < q
theorem KeyW.mk' {w w1 : World} {K : List UInt8} (hb : Below (w.heap.size + 1) (w.alloc (.cells (cellsB (zer 32)).toArray 30)) w1) :
    KeyW w ((w1.alloc (.cells (cellsB (zer 64)).toArray 45)).setRow w1.heap.size (cellsB K).toArray) w1.heap.size K := by
  have hs := hb.size
  simp at hs
  refine ⟨below_setRow ((((Below.refl _ _).alloc (Nat.le_refl _) _).trans (hb.mono (by omega))).alloc (by omega) _) (by omega) _, ?_, (Bw.new w1 (zer 64) _).row, hs⟩
  exact (((Bw.new w (zer 32) 30).below hb (by omega)).alloc _).rowFar (by omega) _
theorem KeyW.on {w w2 w3 : World} {q : Nat} {K : List UInt8} (h : KeyW w w2 q K) (hb : Below w2.heap.size w2 w3) : KeyW w w3 q K :=
  ⟨h.bel.trans (hb.mono h.bel.size), h.ans.below hb h.ans.lt, h.key.below hb h.key.lt, h.lt⟩
theorem KeyW.grown {w w2 w3 : World} {q g : Nat} {K : List UInt8} (h : KeyW w w2 q K) (hg : w2.grownBy w3 (some g)) (hq : q < g) : KeyW w w3 q K := by
  have := h.lt
  exact ⟨below_row h.bel hg (by omega) h.bel.size, keptG h.ans hg (by omega), keptG h.key hg (by omega), h.lt⟩

set_option maxRecDepth 100000 in
set_option maxHeartbeats 400000 in
theorem raw_any (A B : Option Addr) (n c m d : Nat) (k b : List UInt8) (w : World) (h : HasB w w.heap.size A n k) (hb : HasB w w.heap.size B m b) (hc : n ≤ c) (hd : m ≤ d) (hn : n ≤ 1073741824) (hm : m ≤ 1073741824) :
    Calls Try.prog 15 #[.slice A n c, .slice B m d] w (RetID w (macS k b)) := by
  have hml := hb.len
  have hk := keyL_len k
  have hx : (xorB 54 (keyL k)).length = 64 := by rw [xorB_len, hk]
  have ho := macS_len k b
  have CK : Calls Try.prog 24 #[.slice A n c] (w.alloc (.cells (cellsB (zer 32)).toArray 30)) (RetA (w.alloc (.cells (cellsB (zer 32)).toArray 30)) (keyL k)) :=
    keyBlock_any A n c k _ (h.on ((Below.refl _ _).alloc (Nat.le_refl _) _)) hc hn
  have CE : ∀ g W, HashD W g (xorB 54 (keyL k) ++ b) → Calls Try.prog 28 #[.agg (cellsB (keyL k)).toArray, .pointer (some ⟨g, 0, none⟩)] W (RetID W (macS k b)) := fun g W hD => end_any (keyL k) _ g W hk hD (by rw [List.length_append, hx]; omega)
  have CB : ∀ W, Calls Try.prog 25 #[.agg (cellsB (keyL k)).toArray] W (RetNew W (xorB 54 (keyL k))) := fun W => begin_any _ W hk
  generalize macS k b = O at CE ho ⊢
  generalize xorB 54 (keyL k) = X at CE CB hx
  generalize keyL k = K at CK CE CB hk
  have HS := Lib.hid hb
  have HM := Lib.hid hml
  have IV := Lib.hid (blk_iv K hk)
  have HZ := Lib.hid (blk_hz K hk)
  have IO := Lib.hid (id_iv O ho)
  have OZ := Lib.hid (id_hz O ho)
  have HX := Lib.hid hx
  have HCK := Lib.hid CK
  have HCB := Lib.hid CB
  have HCE := Lib.hid CE
  clear hml hk hx ho CK CE CB h hb
  go_enter Try.func15, Try.ntmps15
  go_upto_region 2 with (first
    | (go_at_call 24; refine HCK.out.mono ?_; rintro e w1 ⟨rfl, hb1⟩
       have HB1 := Lib.hid hb1
       clear hb1)
    | (refine wpList_store_row rfl 45 (.tmp 5) (.tmp 8) rfl w1.heap.size (cellsB K).toArray rfl rfl 45 _ (Bw.new w1 (zer 64) 45) IV.out HZ.out (cellsB_ones _) ?_))
  generalize hw2 : World.setRow _ _ _ = w2
  have K2 : KeyW w w2 w1.heap.size K := by
    rw [← hw2]
    exact KeyW.mk' (HB1.out.mono (by simp))
  have HK2 := Lib.hid K2
  clear K2 hw2
  go_wp2_with (first
    | (refine wpList_load_row rfl 45 (.tmp 5) rfl w1.heap.size rfl 45 (cellsB K).toArray (0, 0) _ HK5.out.key Try.underlying45 rfl IV.out ?_)
    | (refine wpList_load_row rfl 45 (.tmp 5) rfl w1.heap.size rfl 45 (cellsB K).toArray (0, 0) _ HK2.out.key Try.underlying45 rfl IV.out ?_)
    | (go_at_call 25; refine (HCB.out _).mono ?_; rintro e w3 ⟨g, rfl, hg, hd3, hb3⟩
       have hk3 := HK2.out.on hb3
       have hq := HK2.out.key.lt
       have hq2 := HK2.out.lt
       have hw := write_any g m d X b B w3 hd3 (Src.of_below (HS.out.below hk3.bel) (by omega) hd3.lt) hd (by rw [HX.out, ← HM.out]; omega)
       have HK3 := Lib.hid hk3
       have HW := Lib.hid hw
       have HQ := Lib.hid (Nat.lt_of_lt_of_le hq hg)
       clear hk3 hq hq2 hw hg hd3 hb3)
    | (go_at_call 26; refine HW.out.mono ?_; rintro e w5 ⟨rfl, hd5, hg5⟩
       have HK5 := Lib.hid (HK3.out.grown hg5 HQ.out)
       have HE := Lib.hid (HCE.out g w5 hd5)
       clear hd5 hg5)
    | (go_at_call 28; refine HE.out.mono ?_; rintro e w6 ⟨rfl, hb6⟩
       have HK6 := Lib.hid (HK5.out.on hb6)
       clear hb6)
    | (refine wpList_store_row rfl 30 (.tmp 4) (.tmp 16) rfl w.heap.size (cellsB O).toArray rfl rfl 30 _ HK6.out.ans IO.out OZ.out (cellsB_ones _) ?_))
  refine bodyPost_ret (v := .agg (cellsB O).toArray) ?_ (by rfl) ?_
  · exact results_cell_row (p := 4) (ty := 30) rfl _ _ w.heap.size 30 (cellsB O).toArray _ _ rfl (setRow_heap _ _ _ _ 30 _ HK6.out.ans) Try.underlying30 rfl IO.out
  · exact ⟨rfl, below_setRow HK6.out.bel (Nat.le_refl _) _⟩
end Go.Proofs.Ytkpmfpbeidhcbaa
