/-
  Own work.
-/
import Derived.Test.YthoebjekkfhhgaaGreatG1
import Derived.Test.YthoebjekkfhhgaaGreatPad
set_option linter.unusedVariables false
set_option linter.unusedSimpArgs false
namespace Go.Proofs.YthoebjekkfhhgaaGreat
open Go.RowKit
theorem be_num_rev : ∀ (r : List UInt8), be r.length (num r.reverse) = r.reverse
 | [] => rfl
 | b :: r => by
   rw [List.reverse_cons, num_snoc, List.length_cons, be]
   have hb := b.toNat_lt
   rw [show (num r.reverse * 256 + b.toNat) / 256 = num r.reverse by omega, be_num_rev r]
   congr 2
   apply UInt8.toNat_inj.1
   rw [UInt8.toNat_ofNat']
   omega
theorem be_num (l : List UInt8) : be l.length (num l) = l := by
 have := be_num_rev l.reverse
 simpa using this
theorem num_be : ∀ (n v : Nat), v < 256 ^ n -> num (be n v) = v
 | 0, v, h => by
   have : v = 0 := by simpa using h
   subst this
   rfl
 | n + 1, v, h => by
   rw [be, num_snoc, num_be n (v / 256) (by rw [Nat.pow_succ] at h; omega), UInt8.toNat_ofNat']
   omega
def frS (key b : List UInt8) : List UInt8 := (sumS (key ++ b)).take 8
def frmL (key b : List UInt8) : List UInt8 := 199 :: 70 :: (be 4 b.length ++ (frS key b ++ (key ++ b)))
theorem frS_len (key b : List UInt8) : (frS key b).length = 8 := by unfold frS; rw [List.length_take, sum_len]; rfl
theorem frmL_len (key b : List UInt8) (hk : key.length = 32) : (frmL key b).length = 46 + b.length := by
 unfold frmL
 simp only [List.length_cons, List.length_append, be_length, frS_len, hk]
 omega
def fputL (key b : List UInt8) : List UInt8 := if b.length <= 4200 then frmL key b else []
def fputE (b : List UInt8) : Int := if b.length <= 4200 then 0 else 2
def fsz (n : Int) : Int := if n < 0 \/ 4200 < n then 0 else 46 + n
structure TK where
 key : List UInt8
 b : List UInt8
 n : Nat
 e : Int
def TK.no (e : Int) : TK := ⟨zer 32, [], 0, e⟩
def fN (l : List UInt8) : Nat := num ((l.drop 2).take 4)
def fK (l : List UInt8) : List UInt8 := (l.drop 14).take 32
def fB (l : List UInt8) : List UInt8 := (l.drop 46).take (fN l)
def fT (l : List UInt8) : List UInt8 := (l.drop 6).take 8
def ftake (l : List UInt8) : TK :=
 if l.length < 46 then .no 3 else if ¬ (l[0]? = some 199 /\ l[1]? = some 70) then .no 4 else if 4200 < fN l then .no 2 else if l.length < 46 + fN l then .no 3
 else if frS (fK l) (fB l) = fT l then ⟨fK l, fB l, 46 + fN l, 0⟩ else .no 11
theorem drop_cat {α : Type} (a b : List α) (n k : Nat) (h : a.length = n) : (a ++ b).drop (n + k) = b.drop k := by
 subst h
 rw [<- List.drop_drop]
 simp
theorem take_cat0 {α : Type} (a b : List α) (n : Nat) (h : a.length = n) : (a ++ b).take n = a := by
 subst h
 simp
theorem fr_parts (a s k r : List UInt8) (ha : a.length = 4) (hs : s.length = 8) (hk : k.length = 32) :
 let l := (199 : UInt8) :: 70 :: (a ++ (s ++ (k ++ r)))
 l[0]? = some 199 /\ l[1]? = some 70 /\ (l.drop 2).take 4 = a /\ fT l = s /\ fK l = k /\ l.drop 46 = r := by
 intro l
 have h2 : l.drop 2 = a ++ (s ++ (k ++ r)) := rfl
 have h6 : l.drop 6 = s ++ (k ++ r) := by rw [show 6 = 2 + 4 from rfl, <- List.drop_drop, h2, show 4 = 4 + 0 from rfl, drop_cat _ _ 4 0 ha, List.drop_zero]
 have h14 : l.drop 14 = k ++ r := by rw [show 14 = 6 + 8 from rfl, <- List.drop_drop, h6, show 8 = 8 + 0 from rfl, drop_cat _ _ 8 0 hs, List.drop_zero]
 have h46 : l.drop 46 = r := by rw [show 46 = 14 + 32 from rfl, <- List.drop_drop, h14, show 32 = 32 + 0 from rfl, drop_cat _ _ 32 0 hk, List.drop_zero]
 refine ⟨rfl, rfl, ?_, ?_, ?_, h46⟩
 · rw [h2, take_cat0 _ _ 4 ha]
 · unfold fT; rw [h6, take_cat0 _ _ 8 hs]
 · unfold fK; rw [h14, take_cat0 _ _ 32 hk]
theorem fr_join (l : List UInt8) (n : Nat) (h0 : l[0]? = some 199) (h1 : l[1]? = some 70) (hn : 46 + n <= l.length) :
 l.take (46 + n) = (199 : UInt8) :: 70 :: ((l.drop 2).take 4 ++ (fT l ++ (fK l ++ (l.drop 46).take n))) := by
 have hl : l = 199 :: 70 :: l.drop 2 := by
  rcases l with _ | ⟨x, _ | ⟨y, l⟩⟩
  · cases h0
  · cases h1
  · simp only [List.getElem?_cons_zero, Option.some.injEq] at h0
    simp only [List.getElem?_cons_succ, List.getElem?_cons_zero, Option.some.injEq] at h1
    subst h0 h1
    rfl
 have c1 : ∀ (m : List UInt8) (i j : Nat), i + j <= m.length -> m.take (i + j) = m.take i ++ (m.drop i).take j := fun m i j _ => by rw [List.take_add]
 have e2 : l.take (46 + n) = 199 :: 70 :: (l.drop 2).take (44 + n) := by
  conv => lhs; rw [hl]
  rw [show 46 + n = (44 + n) + 1 + 1 by omega, List.take_succ_cons, List.take_succ_cons]
 rw [e2, show 44 + n = 4 + (8 + (32 + n)) by omega, List.take_add, List.drop_drop, List.take_add, List.drop_drop, List.take_add, List.drop_drop]
 rfl
theorem fT_len (l : List UInt8) (h : 46 <= l.length) : (fT l).length = 8 := by unfold fT; rw [List.length_take, List.length_drop]; omega
theorem fK_len (l : List UInt8) (h : 46 <= l.length) : (fK l).length = 32 := by unfold fK; rw [List.length_take, List.length_drop]; omega
theorem fB_len (l : List UInt8) (h : 46 + fN l <= l.length) : (fB l).length = fN l := by unfold fB; rw [List.length_take, List.length_drop]; omega
theorem fN_lt (l : List UInt8) : fN l < 4294967296 := by
 unfold fN
 have h1 := num_lt ((l.drop 2).take 4)
 have h2 : ((l.drop 2).take 4).length <= 4 := by rw [List.length_take]; omega
 have h3 : 256 ^ ((l.drop 2).take 4).length <= 256 ^ 4 := Nat.pow_le_pow_right (by omega) h2
 omega
theorem fr_iff (l : List UInt8) (h0 : l[0]? = some 199) (h1 : l[1]? = some 70) (hn : 46 + fN l <= l.length) : frmL (fK l) (fB l) = l.take (46 + fN l) ↔ frS (fK l) (fB l) = fT l := by
 have hb := fB_len l hn
 have h4 : ((l.drop 2).take 4).length = 4 := by rw [List.length_take, List.length_drop]; omega
 have e4 : be 4 (fB l).length = (l.drop 2).take 4 := by
  rw [hb]
  have := be_num ((l.drop 2).take 4)
  rwa [h4] at this
 rw [fr_join l (fN l) h0 h1 hn]
 unfold frmL
 rw [e4]
 constructor
 · intro h
   simp only [List.cons.injEq, true_and, List.append_cancel_left_eq] at h
   exact (List.append_inj h (by rw [frS_len, fT_len l (by omega)])).1
 · intro h
   rw [h]
   rfl
theorem ftake_frame (key b r : List UInt8) (hk : key.length = 32) (hb : b.length <= 4200) : ftake (frmL key b ++ r) = ⟨key, b, 46 + b.length, 0⟩ := by
 have e : frmL key b ++ r = (199 : UInt8) :: 70 :: (be 4 b.length ++ (frS key b ++ (key ++ (b ++ r)))) := by simp [frmL]
 obtain ⟨p0, p1, p2, p3, p4, p5⟩ := fr_parts (be 4 b.length) (frS key b) key (b ++ r) (be_length 4 _) (frS_len _ _) hk
 rw [<- e] at p0 p1 p2 p3 p4 p5
 have hN : fN (frmL key b ++ r) = b.length := by unfold fN; rw [p2]; exact num_be 4 _ (by have : (256 : Nat) ^ 4 = 4294967296 := rfl; omega)
 have hB : fB (frmL key b ++ r) = b := by unfold fB; rw [p5, hN]; exact take_cat0 _ _ _ rfl
 have hL : (frmL key b ++ r).length = 46 + b.length + r.length := by rw [List.length_append, frmL_len key b hk]
 unfold ftake
 rw [if_neg (by omega), if_neg (by intro hh; exact hh ⟨p0, p1⟩), if_neg (by omega), if_neg (by omega), hB, p4, p3, if_pos rfl, hN]
theorem ftake_cases (l : List UInt8) : ((ftake l).e ≠ 0 /\ ftake l = .no (ftake l).e) \/ ((ftake l).e = 0 /\ (ftake l).key.length = 32 /\ (ftake l).b.length <= 4200 /\ (ftake l).n = 46 + (ftake l).b.length /\ (ftake l).n <= l.length /\ l.take (ftake l).n = frmL (ftake l).key (ftake l).b) := by
 unfold ftake
 split
 · exact .inl ⟨by decide, rfl⟩
 · split
   · exact .inl ⟨by decide, rfl⟩
   · rename_i h1 h2
     have h2' : l[0]? = some 199 /\ l[1]? = some 70 := Classical.byContradiction h2
     split
     · exact .inl ⟨by decide, rfl⟩
     · split
       · exact .inl ⟨by decide, rfl⟩
       · rename_i h3 h4
         split
         · rename_i h5
           have hb := fB_len l (by omega)
           refine .inr ⟨rfl, fK_len l (by omega), by show (fB l).length <= _; omega, by show 46 + fN l = 46 + (fB l).length; omega, by show 46 + fN l <= _; omega, ?_⟩
           exact ((fr_iff l h2'.1 h2'.2 (by omega)).2 h5).symm
         · exact .inl ⟨by decide, rfl⟩
end Go.Proofs.YthoebjekkfhhgaaGreat
