/-
  Own work. Space and the document's space, operation by operation, over a transaction that is seen whole.
-/
import Derived.Test.YtjpicaofgiagdaaGreatQ8
import Derived.Test.YtjpicaofgiagdaaGreatR8
import Derived.Test.YtjpicaofgiagdaaGreatBt
import Derived.Test.YtjpicaofgiagdaaGreatOm
namespace Go.Proofs.YtjpicaofgiagdaaGreat
open Go.RowKit Go.Maps
set_option linter.unusedVariables false
set_option linter.unusedSimpArgs false

/-! ### The sixteen roots -/
theorem num_be_r : ∀ (n v : Nat), v < 256 ^ n → num (be n v) = v
  | 0, v, h => by
    have : v = 0 := by simpa using h
    subst this
    rfl
  | n + 1, v, h => by
    rw [be, num_snoc, num_be_r n (v / 256) (by rw [Nat.pow_succ] at h; omega), UInt8.toNat_ofNat']
    omega
theorem drop_cat_r {α : Type} (a b : List α) (n k : Nat) (h : a.length = n) : (a ++ b).drop (n + k) = b.drop k := by
  subst h
  rw [← List.drop_drop]
  simp
theorem take_cat_r {α : Type} (a b : List α) (n : Nat) (h : a.length = n) : (a ++ b).take n = a := by
  subst h
  simp
def roots (b0 : List UInt8) : List Nat := (List.range 16).map (rootV b0)
theorem roots_len (b0 : List UInt8) : (roots b0).length = 16 := by simp [roots]
theorem roots_at (b0 : List UInt8) {k : Nat} (hk : k < 16) : (roots b0)[k]? = some (rootV b0 k) := by
  unfold roots
  rw [List.getElem?_map, List.getElem?_range hk]; rfl
theorem rootL_at {b0 : List UInt8} (hb : b0.length = 512) {k : Nat} (v : Nat) (hk : k < 16) (i : Nat) (hi : i < 4 * k ∨ 4 * k + 4 ≤ i) : (rootL b0 k v)[i]? = b0[i]? := by
  unfold rootL
  have l1 : (b0.take (4 * k)).length = 4 * k := by rw [List.length_take]; omega
  rcases hi with hi | hi
  · rw [List.append_assoc, List.getElem?_append_left (by omega), List.getElem?_take, if_pos hi]
  · rw [List.getElem?_append_right (by rw [List.length_append, l1, be_length]; omega), List.length_append, l1, be_length, List.getElem?_drop, show 4 * k + 4 + (i - (4 * k + 4)) = i by omega]
theorem rootV_set {b0 : List UInt8} (hb : b0.length = 512) {k j v : Nat} (hk : k < 16) (hj : j < 16) (hv : v < 4294967296) : rootV (rootL b0 k v) j = if j = k then v else rootV b0 j := by
  by_cases h : j = k
  · subst h
    rw [if_pos rfl]
    unfold rootV rootL
    have l1 : (b0.take (4 * j)).length = 4 * j := by rw [List.length_take]; omega
    rw [List.append_assoc, show 4 * j = 4 * j + 0 from rfl, drop_cat_r _ _ (4 * j) 0 (by rw [show 4 * j + 0 = 4 * j from rfl]; exact l1), List.drop_zero, take_cat_r _ _ 4 (be_length 4 v)]
    exact num_be_r 4 v (by have : (256 : Nat) ^ 4 = 4294967296 := rfl; omega)
  · rw [if_neg h]
    unfold rootV
    congr 1
    apply List.ext_getElem?
    intro i
    rw [List.getElem?_take, List.getElem?_take]
    split
    · rw [List.getElem?_drop, List.getElem?_drop]
      exact rootL_at hb v hk _ (by omega)
    · rfl
theorem roots_set {b0 : List UInt8} (hb : b0.length = 512) {k v : Nat} (hk : k < 16) (hv : v < 4294967296) : roots (rootL b0 k v) = (roots b0).set k v := by
  apply List.ext_getElem?
  intro i
  by_cases hi : i < 16
  · rw [roots_at _ hi, rootV_set hb hk hi hv, List.getElem?_set]
    by_cases h : k = i
    · rw [if_pos h, if_pos h.symm, if_pos (by rw [roots_len]; exact hk)]
    · rw [if_neg h, if_neg (fun e => h e.symm), roots_at _ hi]
  · rw [List.getElem?_eq_none (by rw [roots_len]; omega), List.getElem?_eq_none (by rw [List.length_set, roots_len]; omega)]
theorem roots_zero : roots zsec = zr16 := by decide +kernel
theorem cntD_two {D : Nat → Bool} (h : ∀ i, 2 ≤ i → D i = false) : ∀ k, cntD D k ≤ 2
  | 0 => by unfold cntD; omega
  | 1 => by unfold cntD cntD; split <;> omega
  | 2 => by unfold cntD cntD cntD; split <;> split <;> omega
  | k + 3 => by
    have := cntD_two h (k + 2)
    rw [cntD, h (k + 2) (by omega)]
    simpa using this
/-! ### What Take, Free answer, as relations -/
def Bd (z : Int) : Prop := -9223372036854775808 ≤ z ∧ z ≤ 9223372036854775807
def IsTake (b : List UInt8) (h : Nat) (z x f : Int) (b' : List UInt8) : Prop :=
  (¬ (1 ≤ z ∧ z ≤ 64) ∧ x = 0 ∧ f = 1 ∧ b' = b) ∨ (∃ k : Nat, z = (k : Int) ∧ 1 ≤ k ∧ k ≤ 64 ∧ NoGap b h k ∧ x = 0 ∧ f = 7 ∧ b' = b) ∨ (∃ k s : Nat, z = (k : Int) ∧ 1 ≤ k ∧ k ≤ 64 ∧ IsGap b h k s ∧ x = (s : Int) ∧ f = 0 ∧ b' = flipL b s k)
def IsFree (b : List UInt8) (h : Nat) (s z f : Int) (b' : List UInt8) : Prop :=
  (¬ (1 ≤ z ∧ z ≤ 64 ∧ IsExt b h s z) ∧ f = 1 ∧ b' = b) ∨ (∃ k i : Nat, z = (k : Int) ∧ s = (i : Int) ∧ 1 ≤ k ∧ k ≤ 64 ∧ IsExt b h (i : Int) (k : Int) ∧ f = 0 ∧ b' = flipL b i k)
theorem IsTake.bd {b b' : List UInt8} {h : Nat} {z x f : Int} (hh : h ≤ 4096) (a : IsTake b h z x f b') : Bd x := by
  rcases a with ⟨_, rfl, _⟩ | ⟨k, _, _, _, _, rfl, _⟩ | ⟨k, s, _, h1, _, hg, rfl, _⟩
  · exact ⟨by omega, by omega⟩
  · exact ⟨by omega, by omega⟩
  · have := hg.1
    exact ⟨by omega, by omega⟩
section
variable {Z : DK} {w0 W W' : World} {g gd gp gt n V r q : Nat} {F C : Nat → List UInt8} {D : Nat → Bool} {E : Nat → Prop}
theorem upd_id8 (F : Nat → List UInt8) (k : Nat) (i : Nat) : F i = upd F k (F k) i := by
  unfold upd
  by_cases h : i = k
  · rw [if_pos h, h]
  · rw [if_neg h]
/-- A transaction that has written the sectors 0 and 1 at most. -/
def T2 (Z : DK) (w0 W : World) (g gd gp gt n V r q : Nat) (F C : Nat → List UInt8) (E : Nat → Prop) : Prop :=
  ∃ D q', q' ≤ q ∧ TxS Z w0 W g gd gp gt n V r q' F C D E ∧ ∀ i, 2 ≤ i → D i = false
theorem T2.sz (a : T2 Z w0 W g gd gp gt n V r q F C E) : 8 ≤ n - 2 - r ∧ n - 2 - r ≤ 4096 ∧ ∀ i, i < n - 2 - r → (F i).length = 512 := by
  obtain ⟨D, q', _, t, _⟩ := a
  exact t.sz
theorem T2.up (a : T2 Z w0 W g gd gp gt n V r q F C E) : Below w0.heap.size w0 W := by
  obtain ⟨D, q', _, t, _⟩ := a
  exact t.up
theorem T2.lt (a : T2 Z w0 W g gd gp gt n V r q F C E) : ∀ k, E k → w0.heap.size ≤ k ∧ k < W.heap.size := by
  obtain ⟨D, q', _, t, _⟩ := a
  exact t.lt
theorem T2.congr {F' C' : Nat → List UInt8} (a : T2 Z w0 W g gd gp gt n V r q F C E) (hF : ∀ i, i < n - 2 - r → F i = F' i) (hC : ∀ i, i < n - 2 - r → C i = C' i) : T2 Z w0 W g gd gp gt n V r q F' C' E := by
  obtain ⟨D, q', h, t, hd⟩ := a
  exact ⟨D, q', h, t.congr hF hC (fun _ _ => rfl), hd⟩
theorem T2.add {E' : Nat → Prop} (a : T2 Z w0 W g gd gp gt n V r q F C E) (ho : Only (fun k => E k ∨ W.heap.size ≤ k) W W') (hE : ∀ k, E' k → E k ∨ (W.heap.size ≤ k ∧ k < W'.heap.size)) : T2 Z w0 W' g gd gp gt n V r q F C E' := by
  obtain ⟨D, q', h, t, hd⟩ := a
  exact ⟨D, q', h, t.add ho hE, hd⟩
theorem T2.fit (hd : ∀ i, 2 ≤ i → D i = false) (i : Nat) : D i = true ∨ cntD D (n - 2 - r) < 40 := .inr (by have := cntD_two hd (n - 2 - r); omega)
theorem T2.of_sp {q0 : Nat} {b : List UInt8} (hq : q0 ≤ q) (hd : ∀ i, 2 ≤ i → D i = false) (a : SpU (XS (n - 2 - r) F C D) Z w0 W g gd gp gt n V r q0 b E) : T2 Z w0 W g gd gp gt n V r q (upd F 1 b) C E := by
  obtain ⟨d, t⟩ := a.tx
  exact ⟨_, q0, hq, t, fun i hi => by show (if i = 1 then d else D i) = false; rw [if_neg (by omega)]; exact hd i hi⟩
theorem T2.take (a : T2 Z w0 W g gd gp gt n V r q F C E) (hV : V ≤ 1073000000) (hq : q < 1073741824) (z : Int) (hz : Bd z) :
    Calls Tryz.prog 19 #[.pointer (some ⟨gt, 0, none⟩), .int .i64 z] W fun en W' => ∃ x f b', en = .returned (.tuple #[.int .i64 x, .int .i64 f]) ∧ IsTake (F 1) (n - 2 - r) z x f b' ∧ T2 Z w0 W' g gd gp gt n V r (q + 1) (upd F 1 b') C E ∧ Only (fun k => ¬ E k) W W' := by
  obtain ⟨D, q', h, t, hd⟩ := a
  have sp := t.sp (T2.fit (n := n) (r := r) hd 1)
  by_cases hz1 : 1 ≤ z ∧ z ≤ 64
  · obtain ⟨k, rfl⟩ := Int.eq_ofNat_of_zero_le (show 0 ≤ z by omega)
    rcases gap_or (F 1) (n - 2 - r) k with ng | ⟨s, sg⟩
    · refine (take_no sp hV k (by omega) (by omega) ng).mono ?_
      rintro en W' ⟨rfl, s', y⟩
      exact ⟨0, 7, F 1, rfl, .inr (.inl ⟨k, rfl, by omega, by omega, ng, rfl, rfl, rfl⟩), T2.of_sp (by omega) hd s', y⟩
    · refine (take_yes (XS.st _ _ _ _) sp hV (by omega) k s (by omega) (by omega) sg).mono ?_
      rintro en W' ⟨rfl, s', y⟩
      exact ⟨s, 0, _, rfl, .inr (.inr ⟨k, s, rfl, by omega, by omega, sg, rfl, rfl, rfl⟩), T2.of_sp (by omega) hd s', y⟩
  · refine (take_arg sp hV z hz hz1).mono ?_
    rintro en W' ⟨rfl, s', y⟩
    exact ⟨0, 1, F 1, rfl, .inl ⟨hz1, rfl, rfl, rfl⟩, T2.of_sp (by omega) hd s', y⟩
theorem T2.free (a : T2 Z w0 W g gd gp gt n V r q F C E) (hV : V ≤ 1073000000) (hq : q < 1073741824) (s z : Int) (hs : Bd s) (hz : Bd z) :
    Calls Tryz.prog 21 #[.pointer (some ⟨gt, 0, none⟩), .int .i64 s, .int .i64 z] W fun en W' => ∃ f b', en = .returned (.int .i64 f) ∧ IsFree (F 1) (n - 2 - r) s z f b' ∧ T2 Z w0 W' g gd gp gt n V r (q + 1) (upd F 1 b') C E ∧ Only (fun k => ¬ E k) W W' := by
  obtain ⟨D, q', h, t, hd⟩ := a
  have sp := t.sp (T2.fit (n := n) (r := r) hd 1)
  by_cases hz1 : 1 ≤ z ∧ z ≤ 64
  · obtain ⟨k, rfl⟩ := Int.eq_ofNat_of_zero_le (show 0 ≤ z by omega)
    by_cases hx : IsExt (F 1) (n - 2 - r) s (k : Int)
    · have h4 := hx.1
      obtain ⟨i, rfl⟩ := Int.eq_ofNat_of_zero_le (show 0 ≤ s by omega)
      refine (free_yes (XS.st _ _ _ _) sp hV (by omega) i k (by omega) (by omega) hx).mono ?_
      rintro en W' ⟨rfl, s', y⟩
      exact ⟨0, _, rfl, .inr ⟨k, i, rfl, rfl, by omega, by omega, hx, rfl, rfl⟩, T2.of_sp (by omega) hd s', y⟩
    · refine (free_no sp hV s k hs (by omega) (by omega) hx).mono ?_
      rintro en W' ⟨rfl, s', y⟩
      exact ⟨1, F 1, rfl, .inl ⟨fun h => hx h.2.2, rfl, rfl⟩, T2.of_sp (by omega) hd s', y⟩
  · refine (free_arg sp hV s z hz hz1).mono ?_
    rintro en W' ⟨rfl, s', y⟩
    exact ⟨1, F 1, rfl, .inl ⟨fun h => hz1 ⟨h.1, h.2.1⟩, rfl, rfl⟩, T2.of_sp (by omega) hd s', y⟩
theorem T2.back {b : List UInt8} (e : b = F 1) (a : T2 Z w0 W g gd gp gt n V r q (upd F 1 b) C E) : T2 Z w0 W g gd gp gt n V r q F C E := by
  subst e
  exact a.congr (fun i _ => (upd_id8 F 1 i).symm) (fun _ _ => rfl)
theorem T2.taken (a : T2 Z w0 W g gd gp gt n V r q F C E) (hV : V ≤ 1073000000) (i : Int) (hb : Bd i) (t : Bool) (e : Int) (ht : (0 ≤ i ∧ i < ((n - 2 - r : Nat) : Int) ∧ t = tkB (F 1) i.toNat ∧ e = 0) ∨ (¬ (0 ≤ i ∧ i < ((n - 2 - r : Nat) : Int)) ∧ t = false ∧ e = 1)) :
    Calls Tryz.prog 23 #[.pointer (some ⟨gt, 0, none⟩), .int .i64 i] W fun en W' => en = .returned (.tuple #[.bool t, .int .i64 e]) ∧ T2 Z w0 W' g gd gp gt n V r q F C E ∧ Only (fun k => ¬ E k) W W' := by
  obtain ⟨D, q', h, x, hd⟩ := a
  have sp := x.sp (T2.fit (n := n) (r := r) hd 1)
  rcases ht with ⟨h0, h1, rfl, rfl⟩ | ⟨h0, rfl, rfl⟩
  · obtain ⟨k, rfl⟩ := Int.eq_ofNat_of_zero_le h0
    refine (taken_sp sp hV k (by omega)).mono ?_
    rintro en W' ⟨rfl, s', y⟩
    exact ⟨rfl, (T2.of_sp h hd s').back rfl, y⟩
  · refine (taken_arg sp hV i hb (by omega)).mono ?_
    rintro en W' ⟨rfl, s', y⟩
    exact ⟨rfl, (T2.of_sp h hd s').back rfl, y⟩
theorem T2.left (a : T2 Z w0 W g gd gp gt n V r q F C E) (hV : V ≤ 1073000000) :
    Calls Tryz.prog 55 #[.pointer (some ⟨gt, 0, none⟩)] W fun en W' => en = .returned (.tuple #[.int .i64 ((cntF (F 1) (n - 2 - r) : Nat) : Int), .int .i64 0]) ∧ T2 Z w0 W' g gd gp gt n V r q F C E ∧ Only (fun k => ¬ E k) W W' := by
  obtain ⟨D, q', h, x, hd⟩ := a
  refine (left_sp (x.sp (T2.fit (n := n) (r := r) hd 1)) hV).mono ?_
  rintro en W' ⟨rfl, s', y⟩
  exact ⟨rfl, (T2.of_sp h hd s').back rfl, y⟩
theorem T2.root (a : T2 Z w0 W g gd gp gt n V r q F C E) (hV : V ≤ 1073000000) (k : Int) (hb : Bd k) (v e : Int) (hv : (∃ i : Nat, i < 16 ∧ k = (i : Int) ∧ v = ((rootV (F 0) i : Nat) : Int) ∧ e = 0) ∨ (¬ (0 ≤ k ∧ k < 16) ∧ v = 0 ∧ e = 1)) :
    Calls Tryz.prog 25 #[.pointer (some ⟨gt, 0, none⟩), .int .i64 k] W fun en W' => en = .returned (.tuple #[.int .u32 v, .int .i64 e]) ∧ T2 Z w0 W' g gd gp gt n V r q F C E ∧ Only (fun k => ¬ E k) W W' := by
  obtain ⟨D, q', h, x, hd⟩ := a
  rcases hv with ⟨i, hi, rfl, rfl, rfl⟩ | ⟨h0, rfl, rfl⟩
  · refine (root_yes x hV i hi).mono ?_
    rintro en W' ⟨rfl, s', y⟩
    exact ⟨rfl, ⟨D, q', h, s', hd⟩, y⟩
  · refine (root_no x hV k hb (by omega)).mono ?_
    rintro en W' ⟨rfl, s', y⟩
    exact ⟨rfl, ⟨D, q', h, s', hd⟩, y⟩
theorem T2.setroot (a : T2 Z w0 W g gd gp gt n V r q F C E) (hV : V ≤ 1073000000) (hq : q < 1073741824) (i v : Nat) (hi : i < 16) (hv : v < 4294967296) :
    Calls Tryz.prog 24 #[.pointer (some ⟨gt, 0, none⟩), .int .i64 (i : Int), .int .u32 (v : Int)] W fun en W' => en = .returned (.int .i64 0) ∧ T2 Z w0 W' g gd gp gt n V r (q + 1) (upd F 0 (rootL (F 0) i v)) C E ∧ Only (fun k => ¬ E k) W W' := by
  obtain ⟨D, q', h, x, hd⟩ := a
  refine (setroot_yes x hV (by omega) (T2.fit (n := n) (r := r) hd 0) i v hi hv).mono ?_
  rintro en W' ⟨rfl, s', y⟩
  exact ⟨rfl, ⟨_, q' + 1, by omega, s', fun j hj => by show (if j = 0 then true else D j) = false; rw [if_neg (by omega)]; exact hd j hj⟩, y⟩
theorem T2.setrootN (a : T2 Z w0 W g gd gp gt n V r q F C E) (hV : V ≤ 1073000000) (k v : Int) (hb : Bd k) (hk : ¬ (0 ≤ k ∧ k < 16)) :
    Calls Tryz.prog 24 #[.pointer (some ⟨gt, 0, none⟩), .int .i64 k, .int .u32 v] W fun en W' => en = .returned (.int .i64 1) ∧ T2 Z w0 W' g gd gp gt n V r q F C E ∧ Only (fun k => ¬ E k) W W' := by
  obtain ⟨D, q', h, x, hd⟩ := a
  refine (_root_.Go.Proofs.YtjpicaofgiagdaaGreat.setroot_no x hV k v hb (by omega)).mono ?_
  rintro en W' ⟨rfl, s', y⟩
  exact ⟨rfl, ⟨D, q', h, s', hd⟩, y⟩
theorem T2.commit (a : T2 Z w0 W g gd gp gt n V r q F C E) (hV : V + n + 60 ≤ 1073000000) (hq : q ≤ 1073741824) (hr : 8 ≤ r) :
    Calls Tryz.prog 26 #[.pointer (some ⟨gt, 0, none⟩)] W fun en W' => en = .returned (.int .i64 0) ∧ JnS Z w0 W' g gd gp n (V + n + 43) r F E ∧ Only (fun k => ¬ E k) W W' := by
  obtain ⟨D, q', h, x, hd⟩ := a
  have := cntD_two hd (n - 2 - r)
  exact x.commit hV (by omega) (by omega) (by omega)
theorem T2.abort (a : T2 Z w0 W g gd gp gt n V r q F C E) : Calls Tryz.prog 28 #[.pointer (some ⟨gt, 0, none⟩)] W fun e w' => e = .returned (.tuple #[]) ∧ JnS Z w0 w' g gd gp n V r C E ∧ Only (fun k => ¬ E k) W w' := by
  obtain ⟨D, q', h, x, hd⟩ := a
  exact x.abort
theorem JnS.begin2 (a : JnS Z w0 W g gd gp n V r C E) (hV : V ≤ 1073000000) :
    Calls Tryz.prog 27 #[.pointer (some ⟨g, 0, none⟩)] W fun en W' => ∃ gt, en = .returned (.tuple #[.pointer (some ⟨gt, 0, none⟩), .int .i64 0]) ∧ T2 Z w0 W' g gd gp gt n V r 0 C C E ∧ Only (fun k => ¬ E k) W W' := by
  refine (a.begin_ hV).mono ?_
  rintro en W' ⟨gt, he, t, y⟩
  exact ⟨gt, he, ⟨_, 0, Nat.le_refl _, t, fun _ _ => rfl⟩, y⟩
theorem T2.more {V' q2 : Nat} (a : T2 Z w0 W g gd gp gt n V r q F C E) (h : V ≤ V') (hq : q ≤ q2) : T2 Z w0 W g gd gp gt n V' r q2 F C E := by
  obtain ⟨D, q', h1, t, hd⟩ := a
  exact ⟨D, q', by omega, t.le h, hd⟩
end
/-! ### The document's two spaces, and the row of extents, in memory -/
def P2 (x y : Int) : List Value := [.int .i64 x, .int .i64 y]
structure M8 (w W : World) (gs go : Nat) (l : List Bool) (rs : List Nat) (lo : List Bool) (ro : List Nat) (v : Value) (rows : List (List Value)) (E : Nat → Prop) : Prop where
  ex : ∃ gr gor c co, SpR W w.heap.size gs gr c l rs ∧ SpR W w.heap.size go gor co lo ro ∧ OwnM 43 2 W w.heap.size v rows ∧ (E gs ∧ E gr ∧ E go ∧ E gor) ∧ (∀ k, v.ownBlock = some k → E k ∧ k ≠ gs ∧ k ≠ gr ∧ k ≠ go ∧ k ≠ gor) ∧ gs ≠ go ∧ gs ≠ gor ∧ gr ≠ go ∧ gr ≠ gor
  ls : l.length = lo.length
  rl : rs.length = 16 ∧ ro.length = 16
section
variable {w W W' : World} {gs go : Nat} {l lo : List Bool} {rs ro : List Nat} {v : Value} {rows : List (List Value)} {E : Nat → Prop} {b b' : List UInt8}
theorem M8.only {S : Nat → Prop} (a : M8 w W gs go l rs lo ro v rows E) (ho : Only S W W') (hS : ∀ k, E k → ¬ S k) : M8 w W' gs go l rs lo ro v rows E := by
  obtain ⟨⟨gr, gor, c, co, s1, s2, o, ⟨e1, e2, e3, e4⟩, ev, x⟩, ls, rl⟩ := a
  exact ⟨⟨gr, gor, c, co, s1.only ho (hS _ e1) (hS _ e2), s2.only ho (hS _ e3) (hS _ e4), o.only ho (fun k hk => hS k (ev k hk).1), ⟨e1, e2, e3, e4⟩, ev, x⟩, ls, rl⟩
/-- The one's row turned. -/
theorem M8.turn {l' : List Bool} {rs' : List Nat} (a : M8 w W gs go l rs lo ro v rows E) (hl : l'.length = l.length) (hr : rs'.length = 16)
    (h : ∀ gr c, SpR W w.heap.size gs gr c l rs → Only (fun k => k = gs ∨ k = gr) W W' ∧ SpR W' w.heap.size gs gr c l' rs') : M8 w W' gs go l' rs' lo ro v rows E ∧ Only E W W' := by
  obtain ⟨⟨gr, gor, c, co, s1, s2, o, ⟨e1, e2, e3, e4⟩, ev, x1, x2, x3, x4⟩, ls, rl⟩ := a
  obtain ⟨ho, s1'⟩ := h gr c s1
  refine ⟨⟨⟨gr, gor, c, co, s1', s2.only ho (fun h => h.elim (fun h => x1 h.symm) (fun h => x3 h.symm)) (fun h => h.elim (fun h => x2 h.symm) (fun h => x4 h.symm)), o.only ho (fun k hk h => h.elim (ev k hk).2.1 (ev k hk).2.2.1), ⟨e1, e2, e3, e4⟩, ev, x1, x2, x3, x4⟩, hl.trans ls, hr, rl.2⟩, ho.mono (fun k _ hk => hk.elim (fun h => h ▸ e1) (fun h => h ▸ e2))⟩
theorem M8.rtake (a : M8 w W gs go l rs lo ro v rows E) (hu : Us8 l b) (hl : l.length ≤ 4096) (hb5 : b.length = 512) {z x f : Int} (hz : Bd z) (ht : IsTake b l.length z x f b') :
    Calls Tryz.prog 20 #[.pointer (some ⟨gs, 0, none⟩), .int .i64 z] W fun e W' => e = .returned (.tuple #[.int .i64 x, .int .i64 f]) ∧ (∃ l', l'.length = l.length ∧ M8 w W' gs go l' rs lo ro v rows E ∧ Us8 l' b') ∧ Only E W W' := by
  obtain ⟨⟨gr, gor, c, co, s1, s2, o, ⟨e1, e2, e3, e4⟩, ev, x1, x2, x3, x4⟩, ls, rl⟩ := a
  have A : M8 w W gs go l rs lo ro v rows E := ⟨⟨gr, gor, c, co, s1, s2, o, ⟨e1, e2, e3, e4⟩, ev, x1, x2, x3, x4⟩, ls, rl⟩
  rcases ht with ⟨h1, rfl, rfl, rfl⟩ | ⟨k, rfl, h1, h2, hg, rfl, rfl, rfl⟩ | ⟨k, s, rfl, h1, h2, hg, rfl, rfl, rfl⟩
  · refine (rtake_arg _ z hz (by omega)).mono ?_
    rintro e W' ⟨rfl, rfl⟩
    exact ⟨rfl, ⟨l, rfl, A, hu⟩, Only.refl _ _⟩
  · refine (rtake_no s1 hu hl k h1 h2 hg).mono ?_
    rintro e W' ⟨rfl, rfl⟩
    exact ⟨rfl, ⟨l, rfl, A, hu⟩, Only.refl _ _⟩
  · refine (rtake_yes s1 hu hl k s h1 h2 hg).mono ?_
    rintro e W' ⟨rfl, ⟨l', hl', s1', hx⟩, y⟩
    have y2 : Only (fun k => k = gs ∨ k = gr) W W' := y.mono (fun k _ hk => .inr hk)
    refine ⟨rfl, ⟨l', hl', ⟨⟨gr, gor, c, co, s1', s2.only y2 (fun h => h.elim (fun h => x1 h.symm) (fun h => x3 h.symm)) (fun h => h.elim (fun h => x2 h.symm) (fun h => x4 h.symm)), o.only y2 (fun k hk h => h.elim (ev k hk).2.1 (ev k hk).2.2.1), ⟨e1, e2, e3, e4⟩, ev, x1, x2, x3, x4⟩, hl'.trans ls, rl⟩, fun i hi => ?_⟩, y.mono (fun k _ hk => hk ▸ e2)⟩
    rw [hx i (by omega), tk_take hb5 hl h1 hg]
theorem M8.rfree (a : M8 w W gs go l rs lo ro v rows E) (hu : Us8 l b) (hl : l.length ≤ 4096) (hb5 : b.length = 512) {s z f : Int} (hs : Bd s) (hz : Bd z) (ht : IsFree b l.length s z f b') :
    Calls Tryz.prog 22 #[.pointer (some ⟨gs, 0, none⟩), .int .i64 s, .int .i64 z] W fun e W' => e = .returned (.int .i64 f) ∧ (∃ l', l'.length = l.length ∧ M8 w W' gs go l' rs lo ro v rows E ∧ Us8 l' b') ∧ Only E W W' := by
  obtain ⟨⟨gr, gor, c, co, s1, s2, o, ⟨e1, e2, e3, e4⟩, ev, x1, x2, x3, x4⟩, ls, rl⟩ := a
  have A : M8 w W gs go l rs lo ro v rows E := ⟨⟨gr, gor, c, co, s1, s2, o, ⟨e1, e2, e3, e4⟩, ev, x1, x2, x3, x4⟩, ls, rl⟩
  rcases ht with ⟨h1, rfl, rfl⟩ | ⟨k, i, rfl, rfl, h1, h2, hg, rfl, rfl⟩
  · refine (rfree_no s1 hu hl s z hs hz h1).mono ?_
    rintro e W' ⟨rfl, rfl⟩
    exact ⟨rfl, ⟨l, rfl, A, hu⟩, Only.refl _ _⟩
  · refine (rfree_yes s1 hu hl i k h1 h2 hg).mono ?_
    rintro e W' ⟨rfl, ⟨l', hl', s1', hx⟩, y⟩
    have y2 : Only (fun k => k = gs ∨ k = gr) W W' := y.mono (fun k _ hk => .inr hk)
    refine ⟨rfl, ⟨l', hl', ⟨⟨gr, gor, c, co, s1', s2.only y2 (fun h => h.elim (fun h => x1 h.symm) (fun h => x3 h.symm)) (fun h => h.elim (fun h => x2 h.symm) (fun h => x4 h.symm)), o.only y2 (fun k hk h => h.elim (ev k hk).2.1 (ev k hk).2.2.1), ⟨e1, e2, e3, e4⟩, ev, x1, x2, x3, x4⟩, hl'.trans ls, rl⟩, fun i hi => ?_⟩, y.mono (fun k _ hk => hk ▸ e2)⟩
    rw [hx i (by omega), tk_free hb5 hl hg]
theorem M8.rleft (a : M8 w W gs go l rs lo ro v rows E) (hu : Us8 l b) (hl : l.length ≤ 4096) :
    Calls Tryz.prog 56 #[.pointer (some ⟨gs, 0, none⟩)] W fun e w' => e = .returned (.int .i64 ((cntF b l.length : Nat) : Int)) ∧ W = w' := by
  obtain ⟨⟨gr, gor, c, co, s1, _⟩, _, _⟩ := a
  exact rleft_any s1 hu hl (cntF b) rfl (fun i => rfl) (cntF_le b)
/-- A copy of the one, stored as the other. -/
theorem M8.copy (a : M8 w W gs go l rs lo ro v rows E) (h0 : 0 < l.length) (hl : l.length ≤ 4096) :
    Calls Tryz.prog 18 #[.pointer (some ⟨gs, 0, none⟩)] W fun e w' => ∃ gr' c', e = .returned (.agg (spC gr' l.length c' rs).toArray) ∧ OwnV 4 w' W.heap.size (.slice (some ⟨gr', 0, none⟩) l.length c') (l.map Value.bool) ∧ Below W.heap.size W w' := by
  obtain ⟨⟨gr, gor, c, co, s1, _⟩, _, rl⟩ := a
  exact rcopy_any s1 rl.1 h0 hl
theorem M8.copyO (a : M8 w W gs go l rs lo ro v rows E) (h0 : 0 < l.length) (hl : l.length ≤ 4096) :
    Calls Tryz.prog 18 #[.pointer (some ⟨go, 0, none⟩)] W fun e w' => ∃ gr' c', e = .returned (.agg (spC gr' lo.length c' ro).toArray) ∧ OwnV 4 w' W.heap.size (.slice (some ⟨gr', 0, none⟩) lo.length c') (lo.map Value.bool) ∧ Below W.heap.size W w' := by
  obtain ⟨⟨gr, gor, c, co, _, s2, _⟩, ls, rl⟩ := a
  exact rcopy_any s2 rl.2 (by omega) (by omega)
theorem rs_size {gr h c : Nat} {rs : List Nat} (hr : rs.length = 16) : (spC gr h c rs).toArray.size = 17 := by rw [List.size_toArray, spC_len, hr]
theorem M8.row (a : M8 w W gs go l rs lo ro v rows E) : ∃ cur, W.heap[gs]? = some (.cells cur 33 (0, 0)) ∧ cur.size = 17 := by
  obtain ⟨⟨gr, gor, c, co, s1, _⟩, _, rl⟩ := a
  exact ⟨_, s1.blk, rs_size rl.1⟩
theorem M8.rowO (a : M8 w W gs go l rs lo ro v rows E) : ∃ cur, W.heap[go]? = some (.cells cur 33 (0, 0)) ∧ cur.size = 17 := by
  obtain ⟨⟨gr, gor, c, co, _, s2, _⟩, _, rl⟩ := a
  exact ⟨_, s2.blk, rs_size rl.2⟩
theorem ownV_blk {E : TypeId} {w : World} {base g n c : Nat} {hs : List Value} (h : OwnV E w base (.slice (some ⟨g, 0, none⟩) n c) hs) : base ≤ g ∧ g < w.heap.size := h.lt g rfl
theorem M8.setOld (a : M8 w W gs go l rs lo ro v rows E) (hE : ∀ k, E k → k < W.heap.size) (hw : w.heap.size ≤ W.heap.size) {gr' c' : Nat} (ho : OwnV 4 W' W.heap.size (.slice (some ⟨gr', 0, none⟩) l.length c') (l.map Value.bool)) (hb : Below W.heap.size W W') :
    M8 w (W'.setRow go (spC gr' l.length c' rs).toArray) gs go l rs l rs v rows (fun k => E k ∨ k = gr') ∧ Only (fun k => E k ∨ W.heap.size ≤ k) W (W'.setRow go (spC gr' l.length c' rs).toArray) := by
  obtain ⟨⟨gr, gor, c, co, s1, s2, o, ⟨e1, e2, e3, e4⟩, ev, x1, x2, x3, x4⟩, ls, rl⟩ := a
  have hgr := ownV_blk ho
  have y1 : Only (fun k => E k ∨ W.heap.size ≤ k) W W' := Only.of_below hb (Nat.le_refl _)
  have b1 : Only (fun _ => False) W W' := Only.of_below hb (Nat.le_refl _)
  have y2 := only_setRow W' go (spC gr' l.length c' rs).toArray
  have hgo : go ≠ gr' := by have := hE go e3; omega
  refine ⟨⟨⟨gr, gr', c, c', (s1.only b1 (fun h => h) (fun h => h)).only y2 x1 x3, ⟨?_, (OwnV.base_le ho hw).only y2 (fun k hk h => hgo (by cases hk; exact h.symm)), hgo⟩, (o.only b1 (fun _ _ h => h)).only y2 (fun k hk h => (ev k hk).2.2.2.1 h), ⟨.inl e1, .inl e2, .inl e3, .inr rfl⟩, fun k hk => ⟨.inl (ev k hk).1, (ev k hk).2.1, (ev k hk).2.2.1, (ev k hk).2.2.2.1, fun h => by have := hE k (ev k hk).1; omega⟩, x1, fun h => by have := hE gs e1; omega, x3, fun h => by have := hE gr e2; omega⟩, rfl, rl.1, rl.1⟩, y1.trans (y2.mono (fun k _ hk => .inl (hk ▸ e3)))⟩
  exact setRow_heap _ _ _ _ 33 _ ((hb.block go (hE go e3)).trans s2.blk)
theorem M8.setNew (a : M8 w W gs go l rs lo ro v rows E) (hE : ∀ k, E k → k < W.heap.size) (hw : w.heap.size ≤ W.heap.size) {gr' c' : Nat} (ho : OwnV 4 W' W.heap.size (.slice (some ⟨gr', 0, none⟩) lo.length c') (lo.map Value.bool)) (hb : Below W.heap.size W W') :
    M8 w (W'.setRow gs (spC gr' lo.length c' ro).toArray) gs go lo ro lo ro v rows (fun k => E k ∨ k = gr') ∧ Only (fun k => E k ∨ W.heap.size ≤ k) W (W'.setRow gs (spC gr' lo.length c' ro).toArray) := by
  obtain ⟨⟨gr, gor, c, co, s1, s2, o, ⟨e1, e2, e3, e4⟩, ev, x1, x2, x3, x4⟩, ls, rl⟩ := a
  have hgr := ownV_blk ho
  have y1 : Only (fun k => E k ∨ W.heap.size ≤ k) W W' := Only.of_below hb (Nat.le_refl _)
  have b1 : Only (fun _ => False) W W' := Only.of_below hb (Nat.le_refl _)
  have y2 := only_setRow W' gs (spC gr' lo.length c' ro).toArray
  have hgo : gs ≠ gr' := by have := hE gs e1; omega
  refine ⟨⟨⟨gr', gor, c', co, ⟨?_, (OwnV.base_le ho hw).only y2 (fun k hk h => hgo (by cases hk; exact h.symm)), hgo⟩, (s2.only b1 (fun h => h) (fun h => h)).only y2 (fun h => x1 h.symm) (fun h => x2 h.symm), (o.only b1 (fun _ _ h => h)).only y2 (fun k hk h => (ev k hk).2.1 h), ⟨.inl e1, .inr rfl, .inl e3, .inl e4⟩, fun k hk => ⟨.inl (ev k hk).1, (ev k hk).2.1, fun h => by have := hE k (ev k hk).1; omega, (ev k hk).2.2.2.1, (ev k hk).2.2.2.2⟩, x1, x2, fun h => by have := hE go e3; omega, fun h => by have := hE gor e4; omega⟩, rfl, rl.2, rl.2⟩, y1.trans (y2.mono (fun k _ hk => .inl (hk ▸ e1)))⟩
  exact setRow_heap _ _ _ _ 33 _ ((hb.block gs (hE gs e1)).trans s1.blk)
/-- A root of the document's is set. -/
theorem M8.setroot (a : M8 w W gs go l rs lo ro v rows E) (k u : Nat) (hk : k < 16) : (∃ x, W.cell? ⟨gs, 1 + k, none⟩ = some (.int .u32 x)) ∧ W.frozen? ⟨gs, 1 + k, none⟩ = false ∧ M8 w (W.setCell ⟨gs, 1 + k, none⟩ (.int .u32 (u : Int))) gs go l (rs.set k u) lo ro v rows E := by
  obtain ⟨⟨gr, gor, c, co, s1, s2, o, ⟨e1, e2, e3, e4⟩, ev, x1, x2, x3, x4⟩, ls, rl⟩ := a
  have hk16 : k < rs.length := by omega
  have hc : ∀ j, (spC gr l.length c rs)[1 + j]? = (rs.map (fun (v : Nat) => Value.int .u32 (Int.ofNat v)))[j]? := fun j => by unfold spC; rw [show 1 + j = j + 1 by omega, List.getElem?_cons_succ]
  refine ⟨⟨(rs[k] : Nat), ?_⟩, frozen_of_row W gs (1 + k) _ _ s1.blk, ?_⟩
  · rw [cell_of_row _ _ _ _ _ _ s1.blk, List.getElem?_toArray, hc, List.getElem?_map, List.getElem?_eq_getElem hk16]; rfl
  · have y : Only (fun j => j = gs) W (W.setCell ⟨gs, 1 + k, none⟩ (.int .u32 (u : Int))) := (Only.refl (fun j => j = gs) W).setCell (p := ⟨gs, 1 + k, none⟩) rfl _
    refine ⟨⟨gr, gor, c, co, ⟨?_, s1.row.only y (fun j hj h => s1.ne (by cases hj; exact h.symm)), s1.ne⟩, s2.only y (fun h => x1 h.symm) (fun h => x2 h.symm), o.only y (fun j hj h => (ev j hj).2.1 h), ⟨e1, e2, e3, e4⟩, ev, x1, x2, x3, x4⟩, ls, by rw [List.length_set]; exact rl.1, rl.2⟩
    have h1 := heap_setCell_same W gs (1 + k) _ _ (.int .u32 (u : Int)) s1.blk
    rw [h1]
    congr 2
    rw [List.setIfInBounds_toArray]
    unfold spC
    rw [show 1 + k = k + 1 by omega, List.set_cons_succ, List.map_set]
    rfl
/-- A root, and what is taken, read. -/
theorem M8.root (a : M8 w W gs go l rs lo ro v rows E) {k u : Nat} (hk : rs[k]? = some u) : W.cell? ⟨gs, 1 + k, none⟩ = some (.int .u32 (u : Int)) := by
  obtain ⟨⟨gr, gor, c, co, s1, _⟩, _, _⟩ := a
  rw [cell_of_row _ _ _ _ _ _ s1.blk]
  unfold spC
  rw [List.getElem?_toArray, show 1 + k = k + 1 by omega, List.getElem?_cons_succ, List.getElem?_map, hk]
  rfl
theorem M8.taken (a : M8 w W gs go l rs lo ro v rows E) : ∃ gr c, W.cell? ⟨gs, 0, none⟩ = some (.slice (some ⟨gr, 0, none⟩) l.length c) ∧ ∀ i x, l[i]? = some x → W.cell? ⟨gr, i, none⟩ = some (.bool x) := by
  obtain ⟨⟨gr, gor, c, co, s1, _⟩, _, _⟩ := a
  exact ⟨gr, c, s1.cell0, fun i x hx => s1.at_ hx⟩
end
end Go.Proofs.YtjpicaofgiagdaaGreat
