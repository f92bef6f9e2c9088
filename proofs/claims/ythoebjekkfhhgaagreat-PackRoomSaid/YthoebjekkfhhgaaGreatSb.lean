/-
  Own work.
-/
import Derived.Test.YthoebjekkfhhgaaGreatCp9
import Derived.Test.YthoebjekkfhhgaaGreatG1
import Derived.BigRegion
set_option linter.unusedVariables false
set_option linter.unusedSimpArgs false
set_option maxRecDepth 100000
set_option maxHeartbeats 8000000
namespace Go.Proofs.YthoebjekkfhhgaaGreat
open Go.RowKit
def tbit (z : UInt8) (j : Nat) : Bool := decide (z.toNat / 2 ^ j % 2 = 1)
def tflip (z : UInt8) (j : Nat) : UInt8 := if tbit z j then UInt8.ofNat (z.toNat - 2 ^ j) else UInt8.ofNat (z.toNat + 2 ^ j)
theorem tflip_same (z : UInt8) (j : Nat) (hj : j < 8) : tbit (tflip z j) j = !tbit z j := by
 have all : ∀ (z : Fin 256) (j : Fin 8), tbit (tflip (UInt8.ofNat z.val) j.val) j.val = !tbit (UInt8.ofNat z.val) j.val := by decide +kernel
 have := all ⟨z.toNat, z.toNat_lt⟩ ⟨j, hj⟩
 simpa using this
theorem tflip_other (z : UInt8) (j k : Nat) (hj : j < 8) (hk : k < 8) (hne : j ≠ k) : tbit (tflip z j) k = tbit z k := by
 have all : ∀ (z : Fin 256) (j k : Fin 8), j ≠ k -> tbit (tflip (UInt8.ofNat z.val) j.val) k.val = tbit (UInt8.ofNat z.val) k.val := by decide +kernel
 have := all ⟨z.toNat, z.toNat_lt⟩ ⟨j, hj⟩ ⟨k, hk⟩ (by simpa using hne)
 simpa using this
theorem xor_tflip (z : UInt8) (j : Nat) (hj : j < 8) : bits .xor .u8 (z.toNat : Int) (2 ^ j) = ((tflip z j).toNat : Int) := by
 have all : ∀ (z : Fin 256) (j : Fin 8), bits .xor .u8 (z.val : Int) (2 ^ j.val) = ((tflip (UInt8.ofNat z.val) j.val).toNat : Int) := by decide +kernel
 have := all ⟨z.toNat, z.toNat_lt⟩ ⟨j, hj⟩
 simpa using this
theorem tpow_mod (j : Nat) (hj : j < 8) : (2 : Int) ^ j % 256 = 2 ^ j := by
 have all : ∀ j : Fin 8, (2 : Int) ^ j.val % 256 = 2 ^ j.val := by decide
 exact all ⟨j, hj⟩
theorem tbit_test (z : UInt8) (j : Nat) : (bits .and .u8 ((z.toNat : Int) / 2 ^ j) 1 == 1) = tbit z j := by
 have h8 := z.toNat_lt
 have e : ((z.toNat : Int) / 2 ^ j) = ((z.toNat / 2 ^ j : Nat) : Int) := by simp
 have hle : z.toNat / 2 ^ j <= z.toNat := Nat.div_le_self _ _
 have hle' : ((z.toNat / 2 ^ j : Nat) : Int) <= (z.toNat : Int) := by exact_mod_cast hle
 have h0 : 0 <= ((z.toNat / 2 ^ j : Nat) : Int) := Int.natCast_nonneg _
 have hm := bits_mask .u8 8 (by decide) wraps_u8 1 (by decide) ((z.toNat : Int) / 2 ^ j) (by rw [e]; exact h0) (by rw [e]; omega)
 rw [show (1 : Int) = 2 ^ 1 - 1 by decide, hm, e]
 unfold tbit
 rw [Bool.eq_iff_iff]
 simp only [beq_iff_eq, decide_eq_true_eq]
 generalize z.toNat / 2 ^ j = q
 omega
theorem and7 (i : Nat) (hi : i < 4096) : bits .and .i64 (i : Int) 7 = ((i % 8 : Nat) : Int) := by
 have := bits_mask .i64 63 (by decide) (fun n h0 h1 => by rw [IntKind.wrap_i64]; omega) 3 (by decide) (i : Int) (by omega) (by omega)
 rw [show (7 : Int) = 2 ^ 3 - 1 by decide, this]
 omega
def bitB (b : List UInt8) (i : Nat) : Bool := tbit (b.getD (i / 8) 0) (i % 8)
def tkB (b : List UInt8) (i : Nat) : Bool := decide (i < 4) || bitB b i
def flip1 (b : List UInt8) (i : Nat) : List UInt8 := b.set (i / 8) (tflip (b.getD (i / 8) 0) (i % 8))
def flipL (b : List UInt8) (s : Nat) : Nat -> List UInt8
 | 0 => b
 | n + 1 => flip1 (flipL b s n) (s + n)
theorem flip1_len (b : List UInt8) (i : Nat) : (flip1 b i).length = b.length := by simp [flip1]
theorem flipL_len (b : List UInt8) (s : Nat) : ∀ n, (flipL b s n).length = b.length
 | 0 => rfl
 | n + 1 => by rw [flipL, flip1_len, flipL_len b s n]
theorem flip1_bit (b : List UInt8) (i j : Nat) (hi : i / 8 < b.length) : bitB (flip1 b i) j = if j = i then !bitB b j else bitB b j := by
 unfold bitB flip1
 by_cases h8 : j / 8 = i / 8
 · have e : (b.set (i / 8) (tflip (b.getD (i / 8) 0) (i % 8))).getD (j / 8) 0 = tflip (b.getD (i / 8) 0) (i % 8) := by
    rw [h8, List.getD, List.getElem?_set, if_pos rfl, if_pos hi]; rfl
   rw [e]
   by_cases hj : j = i
   · subst hj
     rw [if_pos rfl, tflip_same _ _ (Nat.mod_lt _ (by omega))]
   · rw [if_neg hj, h8, tflip_other _ _ _ (Nat.mod_lt _ (by omega)) (Nat.mod_lt _ (by omega)) (by omega)]
 · have e : (b.set (i / 8) (tflip (b.getD (i / 8) 0) (i % 8))).getD (j / 8) 0 = b.getD (j / 8) 0 := by
    rw [List.getD, List.getElem?_set, if_neg (fun h => h8 h.symm)]; rfl
   rw [e, if_neg (by intro h; exact h8 (by rw [h]))]
theorem flipL_bit (b : List UInt8) (s : Nat) : ∀ (n j : Nat), (s + n) / 8 <= b.length -> (n ≠ 0 -> (s + n - 1) / 8 < b.length) -> bitB (flipL b s n) j = if s <= j /\ j < s + n then !bitB b j else bitB b j
 | 0, j, _, _ => by rw [flipL, if_neg (by omega)]
 | n + 1, j, h1, h2 => by
   have h3 : (s + n) / 8 < b.length := by have := h2 (by omega); rwa [show s + (n + 1) - 1 = s + n by omega] at this
   rw [flipL, flip1_bit _ _ _ (by rw [flipL_len]; exact h3), flipL_bit b s n j (by omega) (fun hn => by omega)]
   by_cases hj : j = s + n
   · subst hj
     rw [if_pos rfl, if_neg (by omega), if_pos (by omega)]
   · rw [if_neg hj]
     by_cases hr : s <= j /\ j < s + n
     · rw [if_pos hr, if_pos (by omega)]
     · rw [if_neg hr, if_neg (by omega)]
def BM (w : World) (gm h : Nat) (b : List UInt8) : Prop := w.heap[gm]? = some (.cells (cellsB b ++ [Value.int .i64 (h : Int)]).toArray 119 (0, 0)) /\ b.length = 512
section
variable {w w' : World} {gm h : Nat} {b : List UInt8}
theorem BM.lt (a : BM w gm h b) : gm < w.heap.size := (Array.getElem?_eq_some_iff.1 a.1).1
theorem BM.cell (a : BM w gm h b) {i : Nat} {x : UInt8} (hx : b[i]? = some x) : w.cell? ⟨gm, i, none⟩ = some (.int .u8 (x.toNat : Int)) := by
 rw [cell_of_row _ _ _ _ _ _ a.1]
 have hi := (List.getElem?_eq_some_iff.1 hx).1
 simp only [List.getElem?_toArray]
 rw [List.getElem?_append_left (by rw [cellsB_length]; exact hi)]
 unfold cellsB
 rw [List.getElem?_map, hx]
 rfl
theorem BM.homes (a : BM w gm h b) : w.cell? ⟨gm, 512, none⟩ = some (.int .i64 (h : Int)) := by
 rw [cell_of_row _ _ _ _ _ _ a.1]
 simp only [List.getElem?_toArray]
 rw [List.getElem?_append_right (by rw [cellsB_length, a.2]; exact Nat.le_refl _), cellsB_length, a.2]
 rfl
theorem BM.free (a : BM w gm h b) (i : Nat) : w.frozen? ⟨gm, i, none⟩ = false := frozen_of_row w gm i _ _ a.1
theorem BM.has (a : BM w gm h b) : HasB w w.heap.size (some ⟨gm, 0, none⟩) 512 b :=
 ⟨a.2.symm, fun _ => ⟨gm, 0, rfl, a.lt, fun i x hx => by rw [Nat.zero_add]; exact a.cell hx⟩⟩
theorem BM.set (a : BM w gm h b) {i : Nat} (hi : i < 512) (y : UInt8) : BM (w.setCell ⟨gm, i, none⟩ (.int .u8 (y.toNat : Int))) gm h (b.set i y) := by
 refine ⟨?_, by rw [List.length_set]; exact a.2⟩
 have hl := a.2
 have h1 := heap_setCell_same w gm i _ _ (.int .u8 (y.toNat : Int)) a.1
 rw [h1]
 have e : ((cellsB b ++ [Value.int .i64 (h : Int)]).toArray.setIfInBounds i (.int .u8 (y.toNat : Int))) = (cellsB (b.set i y) ++ [Value.int .i64 (h : Int)]).toArray := by
  rw [List.setIfInBounds_toArray, List.set_append_left _ _ (by rw [cellsB_length]; omega)]
  unfold cellsB
  rw [List.map_set]
 first | rw [e] | (simp only [e])
theorem BM.below (a : BM w gm h b) (hb : Below w.heap.size w w') : BM w' gm h b := ⟨(hb.block gm a.lt).trans a.1, a.2⟩
theorem BM.only {S : Nat -> Prop} (a : BM w gm h b) (ho : Only S w w') (hS : ¬ S gm) : BM w' gm h b := ⟨(ho.block gm a.lt hS).trans a.1, a.2⟩
theorem taken_any (a : BM w gm h b) (i : Nat) (hi : i < 4096) : Calls Tryz.prog 58 #[.pointer (some ⟨gm, 0, none⟩), .int .i64 (i : Int)] w fun e w' => e = .returned (.bool (tkB b i)) /\ w = w' := by
 by_cases h4 : i < 4
 · have e : tkB b i = true := by unfold tkB; rw [decide_eq_true h4]; rfl
   rw [e]
   have h4' : (i : Int) < 4 := by omega
   clear e a
   go_enter Tryz.func58, Tryz.ntmps58
   go_wp2_with fail
   go_ret
   exact ⟨rfl, rfl⟩
 · obtain ⟨z, hz⟩ : ∃ z, b[i / 8]? = some z := ⟨b[i / 8]'(by rw [a.2]; omega), List.getElem?_eq_getElem (by rw [a.2]; omega)⟩
   have e : tkB b i = tbit z (i % 8) := by
    unfold tkB bitB
    rw [decide_eq_false h4, List.getD, hz]
    rfl
   rw [e]
   have hcc := a.cell hz
   have hz8 := z.toNat_lt
   have hlt : i / 8 < 512 := by omega
   have h4' : ¬ (i : Int) < 4 := by omega
   have ea := and7 i hi
   clear e hz a
   go_enter Tryz.func58, Tryz.ntmps58
   go_wp2_with fail
   go_ret
   exact ⟨congrArg (fun b => Ending.returned (.bool b)) (tbit_test z (i % 8)), rfl⟩
theorem Only.setD {S : Nat -> Prop} {w wr : World} {gx i : Nat} (h : Only S w wr) (hg : S gx) (v : Value) : Only S w (wr.setCell ⟨gx, i, none⟩ v).drew :=
 ⟨(h.setCell (p := ⟨gx, i, none⟩) hg v).os, (h.setCell (p := ⟨gx, i, none⟩) hg v).tape, (h.setCell (p := ⟨gx, i, none⟩) hg v).output, (h.setCell (p := ⟨gx, i, none⟩) hg v).size, (h.setCell (p := ⟨gx, i, none⟩) hg v).block⟩
def RetFl (w : World) (gm h : Nat) (b : List UInt8) (e : Ending) (w' : World) : Prop := e = .returned (.tuple #[]) /\ BM w' gm h b /\ Only (fun k => k = gm) w w'
theorem flip_any (a : BM w gm h b) (s n : Nat) (hs : s + n <= 4096) : Calls Tryz.prog 56 #[.pointer (some ⟨gm, 0, none⟩), .int .i64 (s : Int), .int .i64 (n : Int)] w (RetFl w gm h (flipL b s n)) := by
 have A := lH a
 clear a
 go_enter Tryz.func56, Tryz.ntmps56
 go_wp2_with fail
 go_loopw [6] (fun x wr => ∃ k : Nat, k <= n /\ x = .int .i64 ((s + k : Nat) : Int) /\ BM wr gm h (flipL b s k) /\ Only (fun k => k = gm) w wr) (fun x _ => s + n - (intOf x).toNat)
 case atStart => exact ⟨0, Nat.zero_le _, rfl, A.out, Only.refl _ _⟩
 case round =>
  obtain ⟨k, hk, rfl, qb, qy⟩ := hrel
  by_cases hlt : k < n
  · obtain ⟨i, hi⟩ : ∃ i, s + k = i := ⟨_, rfl⟩
    have hi4 : i < 4096 := by omega
    have hsn : i < s + n := by omega
    obtain ⟨z, hz⟩ : ∃ z, (flipL b s k)[i / 8]? = some z := ⟨(flipL b s k)[i / 8]'(by rw [qb.2]; omega), List.getElem?_eq_getElem (by rw [qb.2]; omega)⟩
    have hcc := qb.cell hz
    have hfz := qb.free (i / 8)
    have hz8 := z.toNat_lt
    have hi8 : i / 8 < 512 := by omega
    have ea := and7 i hi4
    have hm8 : i % 8 < 8 := Nat.mod_lt _ (by omega)
    have FL : Hid (flipL b s (k + 1) = (flipL b s k).set (i / 8) (tflip z (i % 8))) := lH (by rw [flipL, flip1, hi, List.getD, hz]; rfl)
    have QB := lH qb
    have QY := lH qy
    have HI := lH hi
    rw [hi]
    have em := tpow_mod (i % 8) hm8
    have ex := xor_tflip z (i % 8) hm8
    obtain ⟨v, hv⟩ : ∃ v, tflip z (i % 8) = v := ⟨_, rfl⟩
    rw [hv] at ex FL
    clear qb qy hz hi hv
    go_upto_region 3 with fail
    go_region
    go_wp2_with fail
    go_roundw
    case rel => exact ⟨k + 1, by omega, (by rw [show s + (k + 1) = i + 1 by have := HI.out; omega]; first | go_num | (congr 1; omega) | (congr 2; omega)), by rw [FL.out]; exact (QB.out.set hi8 v), QY.out.setD rfl _⟩
    case measure => simp [intOf]; omega
  · obtain rfl : k = n := by omega
    go_wp2_with fail
    go_end0
    exact ⟨rfl, qb, qy⟩
def NoGap (b : List UInt8) (h n : Nat) : Prop := ∀ s, s + n <= h -> ∃ j, j < n /\ tkB b (s + j) = true
def IsGap (b : List UInt8) (h n s : Nat) : Prop := s + n <= h /\ (∀ j, j < n -> tkB b (s + j) = false) /\ ∀ s', s' < s -> ∃ j, j < n /\ tkB b (s' + j) = true
def GapI (b : List UInt8) (n i f : Nat) : Prop := f <= i /\ f < n /\ (∀ x, i <= x + f -> x < i -> tkB b x = false) /\ (f < i -> tkB b (i - f - 1) = true) /\ NoGap b i n
theorem GapI.zero (b : List UInt8) {n : Nat} (hn : 1 <= n) : GapI b n 0 0 := ⟨by omega, by omega, fun x _ h => by omega, fun h => by omega, fun s h => by omega⟩
theorem GapI.hit {b : List UInt8} {n i f : Nat} (a : GapI b n i f) (ht : tkB b i = true) : GapI b n (i + 1) 0 := by
 obtain ⟨h1, h2, h3, h4, h5⟩ := a
 refine ⟨by omega, by omega, fun x _ _ => by omega, fun _ => by rw [show i + 1 - 0 - 1 = i by omega]; exact ht, fun s hs => ?_⟩
 by_cases hi : s + n <= i
 · exact h5 s hi
 · exact ⟨n - 1, by omega, by rw [show s + (n - 1) = i by omega]; exact ht⟩
theorem GapI.miss {b : List UInt8} {n i f : Nat} (a : GapI b n i f) (ht : tkB b i = false) (hf : f + 1 < n) : GapI b n (i + 1) (f + 1) := by
 obtain ⟨h1, h2, h3, h4, h5⟩ := a
 refine ⟨by omega, hf, fun x hx hx2 => ?_, fun hfi => by rw [show i + 1 - (f + 1) - 1 = i - f - 1 by omega]; exact h4 (by omega), fun s hs => ?_⟩
 · by_cases he : x = i
   · rw [he]; exact ht
   · exact h3 x (by omega) (by omega)
 · by_cases hi : s + n <= i
   · exact h5 s hi
   · exact ⟨i - f - 1 - s, by omega, by rw [show s + (i - f - 1 - s) = i - f - 1 by omega]; exact h4 (by omega)⟩
theorem GapI.done {b : List UInt8} {n i f h : Nat} (a : GapI b n i f) (ht : tkB b i = false) (hf : f + 1 = n) (hi : i < h) : IsGap b h n (i + 1 - n) := by
 obtain ⟨h1, h2, h3, h4, h5⟩ := a
 refine ⟨by omega, fun j hj => ?_, fun s' hs' => h5 s' (by omega)⟩
 by_cases he : i + 1 - n + j = i
 · rw [he]; exact ht
 · exact h3 _ (by omega) (by omega)
def RetGap (w : World) (b : List UInt8) (h n : Nat) (e : Ending) (w' : World) : Prop :=
 w = w' /\ ((∃ s : Nat, e = .returned (.tuple #[.int .i64 (s : Int), .bool true]) /\ IsGap b h n s) \/ (e = .returned (.tuple #[.int .i64 0, .bool false]) /\ NoGap b h n))
theorem gap_any (a : BM w gm h b) (hh : h <= 4096) (n : Nat) (hn1 : 1 <= n) (hn2 : n <= 64) : Calls Tryz.prog 55 #[.pointer (some ⟨gm, 0, none⟩), .int .i64 (n : Int)] w (RetGap w b h n) := by
 have A := lH a
 have ch := a.homes
 have G0 := lH (GapI.zero b hn1)
 clear a
 go_enter Tryz.func55, Tryz.ntmps55
 go_wp2_with fail
 go_loop [6, 12] (fun x i => ∃ k f : Nat, k <= h /\ i = .int .i64 (k : Int) /\ x = .int .i64 (f : Int) /\ GapI b n k f) (fun _ i => h - (intOf i).toNat)
 case atStart => exact ⟨0, 0, Nat.zero_le _, rfl, rfl, G0.out⟩
 case round =>
  obtain ⟨k, f, hk, rfl, rfl, gi⟩ := hrel
  have hfn := gi.2.1
  by_cases hlt : k < h
  · have CT := taken_any A.out k (by omega)
    obtain ⟨t, ht⟩ : ∃ t, tkB b k = t := ⟨_, rfl⟩
    rw [ht] at CT
    have CTH := lH CT
    have HT := lH ht
    have GI := lH gi
    clear CT ht gi
    cases t
    · by_cases hf : f + 1 = n
      · have hf' : (f : Int) + 1 = (n : Int) := by omega
        go_wp2_with (first
         | (go_at_call 58; refine CTH.out.mono ?_; rintro e w1 ⟨rfl, rfl⟩))
        go_ret2
        have hfk := GI.out.1
        exact ⟨rfl, .inl ⟨k + 1 - n, (by first | rfl | (congr 3; omega) | (congr 4; omega) | (congr 5; omega) | (rw [show ((k + 1 - n : Nat) : Int) = (k : Int) + 1 - n by omega]; rfl)), GI.out.done HT.out hf hlt⟩⟩
      · have hf' : ¬ (f : Int) + 1 = (n : Int) := by omega
        go_wp2_with (first
         | (go_at_call 58; refine CTH.out.mono ?_; rintro e w1 ⟨rfl, rfl⟩))
        go_round
        case rel => exact ⟨k + 1, f + 1, by omega, by go_num, by go_num, GI.out.miss HT.out (by omega)⟩
        case measure => simp [intOf]; omega
    · have hn0 : ¬ (0 : Int) = (n : Int) := by omega
      go_wp2_with (first
       | (go_at_call 58; refine CTH.out.mono ?_; rintro e w1 ⟨rfl, rfl⟩))
      go_round
      case rel => exact ⟨k + 1, 0, by omega, by go_num, rfl, GI.out.hit HT.out⟩
      case measure => simp [intOf]; omega
  · obtain rfl : k = h := by omega
    have GI := lH gi
    clear gi
    go_wp2_with fail
    go_ret2
    exact ⟨rfl, .inr ⟨rfl, GI.out.2.2.2.2⟩⟩
def IsExt (b : List UInt8) (h : Nat) (s n : Int) : Prop := 4 <= s /\ s + n <= h /\ ∀ j : Nat, (j : Int) < n -> tkB b (s.toNat + j) = true
theorem ext_any (a : BM w gm h b) (hh : h <= 4096) (s : Int) (n : Nat) (hs : -9223372036854775808 <= s /\ s <= 9223372036854775807) (hn1 : 1 <= n) (hn2 : n <= 64) (r : Bool) (hr : r = true ↔ IsExt b h s n) :
 Calls Tryz.prog 127 #[.pointer (some ⟨gm, 0, none⟩), .int .i64 s, .int .i64 (n : Int)] w fun e w' => e = .returned (.bool r) /\ w = w' := by
 have A := lH a
 have ch := a.homes
 have HR := lH hr
 obtain ⟨s1, s2⟩ := hs
 clear a hr
 by_cases h4 : s < 4
 · have e : r = false := by rw [Bool.eq_false_iff]; intro h; have := (HR.out.1 h).1; omega
   subst e
   go_enter Tryz.func127, Tryz.ntmps127
   go_wp2_with fail
   go_ret
   exact ⟨rfl, rfl⟩
 · by_cases hg : (h : Int) - n < s
   · have e : r = false := by rw [Bool.eq_false_iff]; intro h; have := (HR.out.1 h).2.1; omega
     subst e
     go_enter Tryz.func127, Tryz.ntmps127
     go_wp2_with fail
     go_ret
     exact ⟨rfl, rfl⟩
   · obtain ⟨S, rfl⟩ := Int.eq_ofNat_of_zero_le (show 0 <= s by omega)
     have hSn : S + n <= h := by omega
     go_enter Tryz.func127, Tryz.ntmps127
     go_wp2_with fail
     go_loop [7] (fun i => ∃ k : Nat, k <= n /\ i = .int .i64 ((S + k : Nat) : Int) /\ ∀ j, j < k -> tkB b (S + j) = true) (fun i => S + n - (intOf i).toNat)
     case atStart => exact ⟨0, Nat.zero_le _, rfl, fun j hj => by omega⟩
     case round =>
      obtain ⟨k, hk, rfl, hall⟩ := hrel
      have HA := lH hall
      clear hall
      by_cases hlt : k < n
      · obtain ⟨i, hi⟩ : ∃ i, S + k = i := ⟨_, rfl⟩
        have hi1 : i < S + n := by omega
        have CT := taken_any A.out i (by omega)
        obtain ⟨t, ht⟩ : ∃ t, tkB b i = t := ⟨_, rfl⟩
        rw [ht] at CT
        have CTH := lH CT
        have HT := lH ht
        have HI := lH hi
        rw [hi]
        clear CT ht hi
        cases t
        · have e : r = false := by rw [Bool.eq_false_iff]; intro h; have := (HR.out.1 h).2.2 k (by omega); rw [show (S : Int).toNat + k = i by have := HI.out; omega, HT.out] at this; cases this
          subst e
          go_wp2_with (first
           | (go_at_call 58; refine CTH.out.mono ?_; rintro e w1 ⟨rfl, rfl⟩))
          go_ret
          exact ⟨rfl, rfl⟩
        · go_wp2_with (first
           | (go_at_call 58; refine CTH.out.mono ?_; rintro e w1 ⟨rfl, rfl⟩))
          go_round
          case rel => exact ⟨k + 1, by omega, (by rw [show S + (k + 1) = i + 1 by have := HI.out; omega]; first | go_num | (congr 1; omega) | (congr 2; omega)), fun j hj => by
           by_cases he : j = k
           · rw [he, HI.out]; exact HT.out
           · exact HA.out j (by omega)⟩
          case measure => simp [intOf]; omega
      · obtain rfl : k = n := by omega
        have e : r = true := HR.out.2 ⟨by omega, by omega, fun j hj => by rw [Int.toNat_natCast]; exact HA.out j (by omega)⟩
        subst e
        go_wp2_with fail
        go_ret
        exact ⟨rfl, rfl⟩
theorem may_any (n : Int) (w : World) (hn : -9223372036854775808 <= n /\ n <= 9223372036854775807) (r : Bool) (hr : decide (1 <= n /\ n <= 64) = r) : Calls Tryz.prog 54 #[.int .i64 n] w fun e w' => e = .returned (.bool r) /\ w = w' := by
 subst hr
 obtain ⟨h1, h2⟩ := hn
 go_enter Tryz.func54, Tryz.ntmps54
 go_wp2
 all_goals go_ret
 all_goals simp [*]
 all_goals omega
end
end Go.Proofs.YthoebjekkfhhgaaGreat
