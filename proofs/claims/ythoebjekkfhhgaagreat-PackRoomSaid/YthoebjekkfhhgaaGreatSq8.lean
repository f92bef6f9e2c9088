/-
  Own work.
-/
import Derived.Test.YthoebjekkfhhgaaGreatQ8
import Derived.Test.YthoebjekkfhhgaaGreatR8
import Derived.Test.YthoebjekkfhhgaaGreatBt
import Derived.Test.YthoebjekkfhhgaaGreatOm
set_option linter.unusedVariables false
set_option linter.unusedSimpArgs false
namespace Go.Proofs.YthoebjekkfhhgaaGreat
open Go.RowKit Go.Maps
theorem num_be_r : ∀ (n v : Nat), v < 256 ^ n -> num (be n v) = v
 | 0, v, h => by
   have : v = 0 := by simpa using h
   subst this
   rfl
 | n + 1, v, h => by
   rw [be, num_snoc, num_be_r n (v / 256) (by rw [Nat.pow_succ] at h; omega), UInt8.toNat_ofNat']
   omega
theorem cntD_two {D : Nat -> Bool} (h : ∀ i, 2 <= i -> D i = false) : ∀ k, cntD D k <= 2
 | 0 => by unfold cntD; omega
 | 1 => by unfold cntD cntD; split <;> omega
 | 2 => by unfold cntD cntD cntD; split <;> split <;> omega
 | k + 3 => by
   have := cntD_two h (k + 2)
   rw [cntD, h (k + 2) (by omega)]
   simpa using this
def Bd (z : Int) : Prop := -9223372036854775808 <= z /\ z <= 9223372036854775807
def IsTake (b : List UInt8) (h : Nat) (z x f : Int) (b' : List UInt8) : Prop :=
 (¬ (1 <= z /\ z <= 64) /\ x = 0 /\ f = 1 /\ b' = b) \/ (∃ k : Nat, z = (k : Int) /\ 1 <= k /\ k <= 64 /\ NoGap b h k /\ x = 0 /\ f = 7 /\ b' = b) \/ (∃ k s : Nat, z = (k : Int) /\ 1 <= k /\ k <= 64 /\ IsGap b h k s /\ x = (s : Int) /\ f = 0 /\ b' = flipL b s k)
def IsFree (b : List UInt8) (h : Nat) (s z f : Int) (b' : List UInt8) : Prop :=
 (¬ (1 <= z /\ z <= 64 /\ IsExt b h s z) /\ f = 1 /\ b' = b) \/ (∃ k i : Nat, z = (k : Int) /\ s = (i : Int) /\ 1 <= k /\ k <= 64 /\ IsExt b h (i : Int) (k : Int) /\ f = 0 /\ b' = flipL b i k)
section
variable {Z : DK} {w0 W W' : World} {g gd gp gt n V r q : Nat} {F C : Nat -> List UInt8} {D : Nat -> Bool} {E : Nat -> Prop}
theorem upd_id8 (F : Nat -> List UInt8) (k : Nat) (i : Nat) : F i = upd F k (F k) i := by
 unfold upd
 by_cases h : i = k
 · rw [if_pos h, h]
 · rw [if_neg h]
def T2 (Z : DK) (w0 W : World) (g gd gp gt n V r q : Nat) (F C : Nat -> List UInt8) (E : Nat -> Prop) : Prop :=
 ∃ D q', q' <= q /\ TxS Z w0 W g gd gp gt n V r q' F C D E /\ ∀ i, 2 <= i -> D i = false
theorem T2.sz (a : T2 Z w0 W g gd gp gt n V r q F C E) : 8 <= n - 2 - r /\ n - 2 - r <= 4096 /\ ∀ i, i < n - 2 - r -> (F i).length = 512 := by
 obtain ⟨D, q', _, t, _⟩ := a
 exact t.sz
theorem T2.up (a : T2 Z w0 W g gd gp gt n V r q F C E) : Below w0.heap.size w0 W := by
 obtain ⟨D, q', _, t, _⟩ := a
 exact t.up
theorem T2.lt (a : T2 Z w0 W g gd gp gt n V r q F C E) : ∀ k, E k -> w0.heap.size <= k /\ k < W.heap.size := by
 obtain ⟨D, q', _, t, _⟩ := a
 exact t.lt
theorem T2.congr {F' C' : Nat -> List UInt8} (a : T2 Z w0 W g gd gp gt n V r q F C E) (hF : ∀ i, i < n - 2 - r -> F i = F' i) (hC : ∀ i, i < n - 2 - r -> C i = C' i) : T2 Z w0 W g gd gp gt n V r q F' C' E := by
 obtain ⟨D, q', h, t, hd⟩ := a
 exact ⟨D, q', h, t.congr hF hC (fun _ _ => rfl), hd⟩
theorem T2.add {E' : Nat -> Prop} (a : T2 Z w0 W g gd gp gt n V r q F C E) (ho : Only (fun k => E k \/ W.heap.size <= k) W W') (hE : ∀ k, E' k -> E k \/ (W.heap.size <= k /\ k < W'.heap.size)) : T2 Z w0 W' g gd gp gt n V r q F C E' := by
 obtain ⟨D, q', h, t, hd⟩ := a
 exact ⟨D, q', h, t.add ho hE, hd⟩
theorem T2.fit (hd : ∀ i, 2 <= i -> D i = false) (i : Nat) : D i = true \/ cntD D (n - 2 - r) < 40 := .inr (by have := cntD_two hd (n - 2 - r); omega)
theorem T2.of_sp {q0 : Nat} {b : List UInt8} (hq : q0 <= q) (hd : ∀ i, 2 <= i -> D i = false) (a : SpU (XS (n - 2 - r) F C D) Z w0 W g gd gp gt n V r q0 b E) : T2 Z w0 W g gd gp gt n V r q (upd F 1 b) C E := by
 obtain ⟨d, t⟩ := a.tx
 exact ⟨_, q0, hq, t, fun i hi => by show (if i = 1 then d else D i) = false; rw [if_neg (by omega)]; exact hd i hi⟩
theorem T2.take (a : T2 Z w0 W g gd gp gt n V r q F C E) (hV : V <= 1073000000) (hq : q < 1073741824) (z : Int) (hz : Bd z) :
 Calls Tryz.prog 25 #[.pointer (some ⟨gt, 0, none⟩), .int .i64 z] W fun en W' => ∃ x f b', en = .returned (.tuple #[.int .i64 x, .int .i64 f]) /\ IsTake (F 1) (n - 2 - r) z x f b' /\ T2 Z w0 W' g gd gp gt n V r (q + 1) (upd F 1 b') C E /\ Only (fun k => ¬ E k) W W' := by
 obtain ⟨D, q', h, t, hd⟩ := a
 have sp := t.sp (T2.fit (n := n) (r := r) hd 1)
 by_cases hz1 : 1 <= z /\ z <= 64
 · obtain ⟨k, rfl⟩ := Int.eq_ofNat_of_zero_le (show 0 <= z by omega)
   rcases gap_or (F 1) (n - 2 - r) k with ng | ⟨s, sg⟩
   · refine (take_no sp hV k (by omega) (by omega) ng).mono ?_
     rintro en W' ⟨rfl, s', y⟩
     exact ⟨0, 7, F 1, rfl, .inr (.inl ⟨k, rfl, by omega, by omega, ng, rfl, rfl, rfl⟩), T2.of_sp (by omega) hd s', y⟩
   · refine (take_yes (XS.st _ _ _ _) sp hV (by omega) k s (by omega) (by omega) sg).mono ?_
     rintro en W' ⟨rfl, s', y⟩
     exact ⟨s, 0, _, rfl, .inr (.inr ⟨k, s, rfl, by omega, by omega, sg, rfl, rfl, rfl⟩), T2.of_sp (by omega) hd s', y⟩
 · refine (take_arg sp hV z hz hz1).mono ?_
   rintro en W' ⟨rfl, s', y⟩
   exact ⟨0, 1, F 1, rfl, .inl ⟨hz1, rfl, rfl, rfl⟩, T2.of_sp (by omega) hd s', y⟩
theorem T2.free (a : T2 Z w0 W g gd gp gt n V r q F C E) (hV : V <= 1073000000) (hq : q < 1073741824) (s z : Int) (hs : Bd s) (hz : Bd z) :
 Calls Tryz.prog 94 #[.pointer (some ⟨gt, 0, none⟩), .int .i64 s, .int .i64 z] W fun en W' => ∃ f b', en = .returned (.int .i64 f) /\ IsFree (F 1) (n - 2 - r) s z f b' /\ T2 Z w0 W' g gd gp gt n V r (q + 1) (upd F 1 b') C E /\ Only (fun k => ¬ E k) W W' := by
 obtain ⟨D, q', h, t, hd⟩ := a
 have sp := t.sp (T2.fit (n := n) (r := r) hd 1)
 by_cases hz1 : 1 <= z /\ z <= 64
 · obtain ⟨k, rfl⟩ := Int.eq_ofNat_of_zero_le (show 0 <= z by omega)
   by_cases hx : IsExt (F 1) (n - 2 - r) s (k : Int)
   · have h4 := hx.1
     obtain ⟨i, rfl⟩ := Int.eq_ofNat_of_zero_le (show 0 <= s by omega)
     refine (free_yes (XS.st _ _ _ _) sp hV (by omega) i k (by omega) (by omega) hx).mono ?_
     rintro en W' ⟨rfl, s', y⟩
     exact ⟨0, _, rfl, .inr ⟨k, i, rfl, rfl, by omega, by omega, hx, rfl, rfl⟩, T2.of_sp (by omega) hd s', y⟩
   · refine (free_no sp hV s k hs (by omega) (by omega) hx).mono ?_
     rintro en W' ⟨rfl, s', y⟩
     exact ⟨1, F 1, rfl, .inl ⟨fun h => hx h.2.2, rfl, rfl⟩, T2.of_sp (by omega) hd s', y⟩
 · refine (free_arg sp hV s z hz hz1).mono ?_
   rintro en W' ⟨rfl, s', y⟩
   exact ⟨1, F 1, rfl, .inl ⟨fun h => hz1 ⟨h.1, h.2.1⟩, rfl, rfl⟩, T2.of_sp (by omega) hd s', y⟩
theorem T2.back {b : List UInt8} (e : b = F 1) (a : T2 Z w0 W g gd gp gt n V r q (upd F 1 b) C E) : T2 Z w0 W g gd gp gt n V r q F C E := by
 subst e
 exact a.congr (fun i _ => (upd_id8 F 1 i).symm) (fun _ _ => rfl)
theorem T2.left (a : T2 Z w0 W g gd gp gt n V r q F C E) (hV : V <= 1073000000) :
 Calls Tryz.prog 27 #[.pointer (some ⟨gt, 0, none⟩)] W fun en W' => en = .returned (.tuple #[.int .i64 ((cntF (F 1) (n - 2 - r) : Nat) : Int), .int .i64 0]) /\ T2 Z w0 W' g gd gp gt n V r q F C E /\ Only (fun k => ¬ E k) W W' := by
 obtain ⟨D, q', h, x, hd⟩ := a
 refine (left_sp (x.sp (T2.fit (n := n) (r := r) hd 1)) hV).mono ?_
 rintro en W' ⟨rfl, s', y⟩
 exact ⟨rfl, (T2.of_sp h hd s').back rfl, y⟩
theorem T2.commit (a : T2 Z w0 W g gd gp gt n V r q F C E) (hV : V + n + 60 <= 1073000000) (hq : q <= 1073741824) (hr : 8 <= r) :
 Calls Tryz.prog 13 #[.pointer (some ⟨gt, 0, none⟩)] W fun en W' => en = .returned (.int .i64 0) /\ JnS Z w0 W' g gd gp n (V + n + 43) r F E /\ Only (fun k => ¬ E k) W W' := by
 obtain ⟨D, q', h, x, hd⟩ := a
 have := cntD_two hd (n - 2 - r)
 exact x.commit hV (by omega) (by omega) (by omega)
theorem T2.more {V' q2 : Nat} (a : T2 Z w0 W g gd gp gt n V r q F C E) (h : V <= V') (hq : q <= q2) : T2 Z w0 W g gd gp gt n V' r q2 F C E := by
 obtain ⟨D, q', h1, t, hd⟩ := a
 exact ⟨D, q', by omega, t.le h, hd⟩
end
section
variable {w W W' : World} {gs go : Nat} {l lo : List Bool} {rs ro : List Nat} {v : Value} {rows : List (List Value)} {E : Nat -> Prop} {b b' : List UInt8}
end
end Go.Proofs.YthoebjekkfhhgaaGreat
