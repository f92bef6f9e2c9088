/-
  Own work.
-/
import Derived.Test.YthoebjekkfhhgaaGreatH8
set_option linter.unusedVariables false
set_option linter.unusedSimpArgs false
namespace Go.Proofs.YthoebjekkfhhgaaGreat
open Go.RowKit
def lenAt (n i : Nat) : UInt8 := UInt8.ofNat (n / 2 ^ (8 * (7 - i)))
def be8 (n : Nat) : List UInt8 := (List.range 8).map (lenAt n)
def padE (n : Nat) : List UInt8 := 128 :: (zer ((119 - n % 64) % 64) ++ be8 (n * 8))
def padS (D : List UInt8) : List UInt8 := D ++ padE D.length
def sumS (D : List UInt8) : List UInt8 := outB (mixN (padS D) ((padS D).length / 64))
theorem be8_len (n : Nat) : (be8 n).length = 8 := rfl
theorem padE_len (n : Nat) : (padE n).length = 9 + (119 - n % 64) % 64 := by simp [padE, zer, be8_len]; omega
theorem padS_len (D : List UInt8) : (padS D).length = D.length + 9 + (119 - D.length % 64) % 64 := by rw [padS, List.length_append, padE_len]; omega
theorem sum_len (D : List UInt8) : (sumS D).length = 32 := outN_len _ 32 (by omega)
theorem pad_blk (D E : List UInt8) (q : Nat) (hq : 64 * q <= D.length) : blk (D ++ E) q = (D.drop (64 * q) ++ E).take 64 := by
 unfold blk
 rw [List.drop_append_of_le_length hq]
theorem finish1 (D : List UInt8) (hx : D.length % 64 < 56) :
 mixN (padS D) ((padS D).length / 64) = comp (mixN D (D.length / 64)) (D.drop (64 * (D.length / 64)) ++ 128 :: (zer (55 - D.length % 64) ++ be8 (D.length * 8))) := by
 have e0 : (119 - D.length % 64) % 64 = 55 - D.length % 64 := by omega
 have e1 : (padS D).length / 64 = D.length / 64 + 1 := by rw [padS_len]; omega
 rw [e1, mixN]
 unfold padS
 rw [mixN_app D _ _ (by omega), pad_blk D _ _ (by omega)]
 refine congrArg (comp _) ?_
 rw [padE, e0, List.take_of_length_le]
 simp [be8_len, zer_len]
 omega
theorem finish2 (D : List UInt8) (hx : 56 <= D.length % 64) :
 mixN (padS D) ((padS D).length / 64) = comp (comp (mixN D (D.length / 64)) (D.drop (64 * (D.length / 64)) ++ 128 :: zer (63 - D.length % 64))) (zer 56 ++ be8 (D.length * 8)) := by
 have e0 : (119 - D.length % 64) % 64 = (63 - D.length % 64) + 56 := by omega
 have e1 : (padS D).length / 64 = D.length / 64 + 1 + 1 := by rw [padS_len]; omega
 have hR : (D.drop (64 * (D.length / 64))).length = D.length % 64 := by rw [List.length_drop]; omega
 rw [e1, mixN, mixN]
 unfold padS
 rw [mixN_app D _ _ (by omega), pad_blk D _ _ (by omega)]
 have hz : padE D.length = (128 :: zer (63 - D.length % 64)) ++ (zer 56 ++ be8 (D.length * 8)) := by
  rw [padE, e0]
  simp only [zer, <- List.replicate_append_replicate, List.append_assoc, List.cons_append]
 refine congr (congrArg comp ?_) ?_
 · refine congrArg (comp _) ?_
   rw [hz, <- List.append_assoc, List.take_append_of_le_length (by simp [hR, zer_len]; omega), List.take_of_length_le (by simp [hR, zer_len]; omega)]
 · unfold blk
   rw [show 64 * (D.length / 64 + 1) = 64 * (D.length / 64) + 64 by omega, <- List.drop_drop, List.drop_append_of_le_length (by omega), hz, <- List.append_assoc,
    List.drop_append_of_le_length (by simp [hR, zer_len]; omega), List.drop_of_length_le (by simp [hR, zer_len]; omega), List.nil_append, List.take_of_length_le (by simp [be8_len, zer_len])]
def lenN (B : List UInt8) (n j : Nat) : List UInt8 := B.take 56 ++ ((List.range j).map (lenAt n) ++ B.drop (56 + j))
theorem lenN_zero (B : List UInt8) (n : Nat) : lenN B n 0 = B := by simp [lenN]
theorem lenN_len (B : List UInt8) (n j : Nat) (hB : B.length = 64) (hj : j <= 8) : (lenN B n j).length = 64 := by simp [lenN, hB]; omega
theorem lenN_set (B : List UInt8) (n j : Nat) (hB : B.length = 64) (hj : j < 8) : (lenN B n j).set (56 + j) (lenAt n j) = lenN B n (j + 1) := by
 unfold lenN
 have h1 : (B.take 56).length = 56 := by rw [List.length_take]; omega
 rw [List.set_append_right _ _ (by omega), h1, show 56 + j - 56 = j by omega, List.set_append_right _ _ (by simp), List.range_succ, List.map_append, List.append_assoc]
 congr 2
 rw [List.drop_eq_getElem_cons (by omega)]
 simp [Nat.add_assoc]
theorem lenN_end (B : List UInt8) (n : Nat) (hB : B.length = 64) : lenN B n 8 = B.take 56 ++ be8 n := by
 unfold lenN be8
 rw [List.drop_of_length_le (by omega), List.append_nil]
def lastB (R : List UInt8) : List UInt8 := R ++ 128 :: zer (63 - R.length)
theorem lastB_len (R : List UInt8) (h : R.length < 64) : (lastB R).length = 64 := by simp [lastB, zer_len]; omega
theorem last_of (b R : List UInt8) (x : Nat) (hR : R.length = x) (hx : x < 64) : (splice (zer 64) 0 R).set x 128 = lastB R := by
 subst hR
 unfold splice lastB zer
 rw [List.take_zero, List.nil_append, Nat.zero_add, List.drop_replicate, List.set_append_right _ _ (by omega), Nat.sub_self, show 64 - R.length = (63 - R.length) + 1 by omega, List.replicate_succ]
 rfl
theorem sum1 (D : List UInt8) (hx : D.length % 64 < 56) : outB (comp (mixN D (D.length / 64)) (lenN (lastB (D.drop (64 * (D.length / 64)))) (D.length * 8) 8)) = sumS D := by
 have hR : (D.drop (64 * (D.length / 64))).length = D.length % 64 := by rw [List.length_drop]; omega
 rw [sumS, finish1 D hx, lenN_end _ _ (lastB_len _ (by omega))]
 refine congrArg outB (congrArg (comp _) ?_)
 unfold lastB
 rw [hR, show 63 - D.length % 64 = (55 - D.length % 64) + 8 by omega, List.take_append, hR, List.take_of_length_le (by omega), List.append_assoc]
 refine congrArg (fun z : List UInt8 => D.drop (64 * (D.length / 64)) ++ z) ?_
 rw [show 56 - D.length % 64 = (55 - D.length % 64) + 1 by omega, List.take_succ_cons, List.cons_append]
 refine congrArg (fun z : List UInt8 => (128 : UInt8) :: (z ++ be8 (D.length * 8))) ?_
 simp [zer]
theorem sum2 (D : List UInt8) (hx : 56 <= D.length % 64) : outB (comp (comp (mixN D (D.length / 64)) (lastB (D.drop (64 * (D.length / 64))))) (lenN (zer 64) (D.length * 8) 8)) = sumS D := by
 have hR : (D.drop (64 * (D.length / 64))).length = D.length % 64 := by rw [List.length_drop]; omega
 rw [sumS, finish2 D hx, lenN_end _ _ (zer_len 64)]
 refine congrArg outB (congr (congrArg comp (congrArg (comp _) ?_)) rfl)
 unfold lastB
 rw [hR]
end Go.Proofs.YthoebjekkfhhgaaGreat
