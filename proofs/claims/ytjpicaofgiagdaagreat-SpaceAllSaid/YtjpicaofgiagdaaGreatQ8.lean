/-
  Own work. A transaction as what it sees (F), what is committed (C), which homes it has written (D): Read, Write, Commit, Abort, Begin; a space as such a one. (For the layers above txn.) Space over a transaction as what it sees: roots; refused Takes, Frees, Takens.
-/
import Derived.Test.YtjpicaofgiagdaaGreatS8
import Derived.Test.YtjpicaofgiagdaaGreatG7
namespace Go.Proofs.YtjpicaofgiagdaaGreat
open Go.RowKit Go.Maps
set_option linter.unusedVariables false
set_option linter.unusedSimpArgs false

def cntD (D : Nat → Bool) : Nat → Nat
  | 0 => 0
  | k + 1 => cntD D k + if D k then 1 else 0
theorem cntD_frK {ws : List ByteArray} {D : Nat → Bool} : ∀ k, (∀ i, i < k → decide ((ws.getD i emp).size ≠ 0) = D i) → (frK ws k).length = cntD D k
  | 0, _ => rfl
  | k + 1, h => by
    rw [frK_succ, cntD, ← cntD_frK k (fun i hi => h i (by omega)), ← h k (by omega)]
    by_cases hz : (ws.getD k emp).size = 0
    · rw [if_pos hz, decide_eq_false (fun h => h hz)]; simp
    · rw [if_neg hz, decide_eq_true hz]; simp
/-- A transaction of a journal that is up. -/
def TxS (Z : DK) (w0 W : World) (g gd gp gt n V r q : Nat) (F C : Nat → List UInt8) (D : Nat → Bool) (E : Nat → Prop) : Prop :=
  ∃ (p : Pt) (j : JM) (T u : Nat) (H : Nat → List UInt8) (ws : List ByteArray) (M : Nat → Prop), UpB Z w0 W g gd gp n p j (fun k => (k = gt ∨ M k) ∨ E k) ∧ SJ p n V j T u r H ∧ TO W gt g (T - 1) (n - 2 - r) q ws M ∧
    (∀ i, i < n - 2 - r → txH H ws i = F i) ∧ (∀ i, i < n - 2 - r → H i = C i) ∧ (∀ i, i < n - 2 - r → decide ((ws.getD i emp).size ≠ 0) = D i) ∧ (∀ i, i < n - 2 - r → (F i).length = 512 ∧ (C i).length = 512) ∧ ∀ k, E k → k ≠ gt ∧ ¬ M k
/-- A journal that is up, its homes. -/
def JnS (Z : DK) (w0 W : World) (g gd gp n V r : Nat) (C : Nat → List UInt8) (E : Nat → Prop) : Prop :=
  ∃ (p : Pt) (j : JM) (T u : Nat) (H : Nat → List UInt8), UpB Z w0 W g gd gp n p j E ∧ SJ p n V j T u r H ∧ (∀ i, i < n - 2 - r → H i = C i) ∧ ∀ i, i < n - 2 - r → (C i).length = 512
section
variable {Z : DK} {w0 W W' : World} {g gd gp gt n V r q : Nat} {F C : Nat → List UInt8} {D : Nat → Bool} {E E' : Nat → Prop}
theorem TxS.up (a : TxS Z w0 W g gd gp gt n V r q F C D E) : Below w0.heap.size w0 W := by
  obtain ⟨p, j, T, u, H, ws, M, U, _⟩ := a
  exact U.up.bel
theorem TxS.sz (a : TxS Z w0 W g gd gp gt n V r q F C D E) : 8 ≤ n - 2 - r ∧ n - 2 - r ≤ 4096 ∧ ∀ i, i < n - 2 - r → (F i).length = 512 := by
  obtain ⟨p, j, T, u, H, ws, M, U, s, t, x1, x2, x3, x4, _⟩ := a
  obtain ⟨b1, b2, b3, b4, b5, b6, b7, b8, b9, b10, b11, b12⟩ := s.homes
  exact ⟨by omega, t.wl.2.2, fun i hi => (x4 i hi).1⟩
theorem TxS.lt (a : TxS Z w0 W g gd gp gt n V r q F C D E) : ∀ k, E k → w0.heap.size ≤ k ∧ k < W.heap.size := by
  obtain ⟨p, j, T, u, H, ws, M, U, _⟩ := a
  exact fun k hk => U.lt k (.inr hk)
theorem TxS.below (a : TxS Z w0 W g gd gp gt n V r q F C D E) (hb : Below W.heap.size W W') : TxS Z w0 W' g gd gp gt n V r q F C D E := by
  obtain ⟨p, j, T, u, H, ws, M, U, s, t, x⟩ := a
  exact ⟨p, j, T, u, H, ws, M, U.below hb, s, t.below hb, x⟩
theorem TxS.less (a : TxS Z w0 W g gd gp gt n V r q F C D E) (h : ∀ k, E' k → E k) : TxS Z w0 W g gd gp gt n V r q F C D E' := by
  obtain ⟨p, j, T, u, H, ws, M, U, s, t, x1, x2, x3, x4, x5⟩ := a
  exact ⟨p, j, T, u, H, ws, M, U.less (fun k hk => hk.imp id (h k)), s, t, x1, x2, x3, x4, fun k hk => x5 k (h k hk)⟩
theorem TxS.congr {F' C' : Nat → List UInt8} {D' : Nat → Bool} (a : TxS Z w0 W g gd gp gt n V r q F C D E) (hF : ∀ i, i < n - 2 - r → F i = F' i) (hC : ∀ i, i < n - 2 - r → C i = C' i) (hD : ∀ i, i < n - 2 - r → D i = D' i) : TxS Z w0 W g gd gp gt n V r q F' C' D' E := by
  obtain ⟨p, j, T, u, H, ws, M, U, s, t, x1, x2, x3, x4, x5⟩ := a
  exact ⟨p, j, T, u, H, ws, M, U, s, t, fun i hi => (x1 i hi).trans (hF i hi), fun i hi => (x2 i hi).trans (hC i hi), fun i hi => (x3 i hi).trans (hD i hi), fun i hi => by rw [← hF i hi, ← hC i hi]; exact x4 i hi, x5⟩
theorem TxS.add (a : TxS Z w0 W g gd gp gt n V r q F C D E) (ho : Only (fun k => E k ∨ W.heap.size ≤ k) W W') (hE : ∀ k, E' k → E k ∨ (W.heap.size ≤ k ∧ k < W'.heap.size)) : TxS Z w0 W' g gd gp gt n V r q F C D E' := by
  obtain ⟨p, j, T, u, H, ws, M, U, s, t, x1, x2, x3, x4, x5⟩ := a
  have hlt := t.lt
  have hml := t.ml
  refine ⟨p, j, T, u, H, ws, M, U.own (ho.mono (fun k _ hk => hk.imp .inr id)) (fun k hk => ?_), s, t.only ho (fun h => h.elim (fun h => (x5 gt h).1 rfl) (fun h => by omega)) (fun k hk h => h.elim (fun h => (x5 k h).2 hk) (fun h => by have := hml k hk; omega)), x1, x2, x3, x4, fun k hk => ?_⟩
  · rcases hk with hk | hk
    · exact .inl (.inl hk)
    · exact (hE k hk).imp .inr id
  · rcases hE k hk with h | h
    · exact x5 k h
    · exact ⟨by omega, fun hM => by have := hml k hM; omega⟩
theorem TxS.le {V' : Nat} (a : TxS Z w0 W g gd gp gt n V r q F C D E) (h : V ≤ V') : TxS Z w0 W g gd gp gt n V' r q F C D E := by
  obtain ⟨p, j, T, u, H, ws, M, U, s, x⟩ := a
  exact ⟨p, j, T, u, H, ws, M, U, s.more h, x⟩
theorem TxS.read (a : TxS Z w0 W g gd gp gt n V r q F C D E) (hV : V ≤ 1073000000) (i : Nat) (hi : i < n - 2 - r) :
    Calls Tryz.prog 87 #[.pointer (some ⟨gt, 0, none⟩), .int .i64 (i : Int)] W fun en W' => ∃ A m c, en = .returned (.tuple #[.slice A m c, .int .i64 0]) ∧ HasB W' W'.heap.size A m (F i) ∧ m ≤ c ∧ c ≤ maxLen ∧ TxS Z w0 W' g gd gp gt n V r q F C D E ∧ Only (fun k => ¬ E k) W W' := by
  obtain ⟨p, j, T, u, H, ws, M, U, s, t, x1, x2, x3, x4, x5⟩ := a
  by_cases h1 : (ws.getD i emp).size = 0
  · refine (tread_up U s hV t i hi h1).mono ?_
    rintro en W' ⟨A, m, c, he, hx, u2, y⟩
    have e : H i = F i := by rw [← x1 i hi]; unfold txH; rw [if_neg (by rw [h1]; exact fun h => h rfl)]
    rw [e] at hx
    refine ⟨A, m, c, he, hx.has, hx.caps.1, hx.caps.2, ⟨p, j, T, u, H, ws, M, u2.less (fun k hk => .inl hk), s, t.only y (fun h => h (.inl (.inl rfl))) (fun k hk h => h (.inl (.inr hk))), x1, x2, x3, x4, x5⟩, y.mono (fun k _ hk h => hk (.inr h))⟩
  · refine (tread_own t i hi h1).mono ?_
    rintro en W' ⟨A, m, c, he, hx, hb⟩
    have e : lst (ws.getD i emp) = F i := by rw [← x1 i hi]; unfold txH; rw [if_pos h1]
    rw [e] at hx
    exact ⟨A, m, c, he, hx.has, hx.caps.1, hx.caps.2, ⟨p, j, T, u, H, ws, M, U.below hb, s, t.below hb, x1, x2, x3, x4, x5⟩, Only.of_below hb (Nat.le_refl _)⟩
theorem TxS.write (a : TxS Z w0 W g gd gp gt n V r q F C D E) (hV : V ≤ 1073000000) (hq : q < 1073741824) (i : Nat) (hi : i < n - 2 - r) (hfit : D i = true ∨ cntD D (n - 2 - r) < 40) (A : Option Addr) (c : Nat) (l : List UInt8) (hd : HasB W W.heap.size A 512 l) (hl : l.length = 512) (hc : 512 ≤ c) :
    Calls Tryz.prog 90 #[.pointer (some ⟨gt, 0, none⟩), .int .i64 (i : Int), .slice A 512 c] W fun en W' => en = .returned (.int .i64 0) ∧ TxS Z w0 W' g gd gp gt n V r (q + 1) (upd F i l) C (fun k => if k = i then true else D k) E ∧ Only (fun k => ¬ E k) W W' := by
  obtain ⟨p, j, T, u, H, ws, M, U, s, t, x1, x2, x3, x4, x5⟩ := a
  have hlt := U.lt
  have wl := t.wl
  have hcnt := cntD_frK (n - 2 - r) x3
  refine (write_up U s hV t (.inl (.inl rfl)) (fun k hk => .inl (.inr hk)) i hi A c l hd hl hc (hfit.imp (fun h => by have := x3 i hi; rw [h] at this; exact of_decide_eq_true this) (fun h => by omega)) hq).mono ?_
  rintro en W' ⟨he, M', t2, u2, hM, y⟩
  have e0 : ∀ k, k ≠ i → (ws.set i (strB l)).getD k emp = ws.getD k emp := fun k hk => by rw [List.getD, List.getElem?_set, if_neg (fun h => hk h.symm)]; rfl
  have e1 : (ws.set i (strB l)).getD i emp = strB l := by rw [List.getD, List.getElem?_set, if_pos rfl, if_pos (by rw [wl.1]; exact hi)]; rfl
  refine ⟨he, ⟨p, j, T, u, H, _, M', u2.less (fun k hk => ?_), s, t2, fun k hk => ?_, x2, fun k hk => ?_, fun k hk => ⟨?_, (x4 k hk).2⟩, fun k hk => ⟨(x5 k hk).1, fun h => ?_⟩⟩, y.mono (fun k _ hk h => (x5 k h).1 hk)⟩
  · rcases hk with (hk | hk) | hk
    · exact .inl (.inl (.inl hk))
    · exact .inr hk
    · exact .inl (.inr hk)
  · unfold upd
    by_cases hki : k = i
    · subst hki
      unfold txH
      rw [e1, if_pos (strB_ne hl), if_pos rfl]
      exact lst_strB l
    · rw [if_neg hki, ← x1 k hk]
      unfold txH
      rw [e0 k hki]
  · by_cases hki : k = i
    · subst hki
      show _ = (if k = k then true else D k)
      rw [if_pos rfl, e1]
      exact decide_eq_true (strB_ne hl)
    · show _ = (if k = i then true else D k)
      rw [if_neg hki, e0 k hki]
      exact x3 k hk
  · unfold upd
    by_cases hki : k = i
    · rw [if_pos hki]; exact hl
    · rw [if_neg hki]; exact (x4 k hk).1
  · rcases hM k h with h | h
    · exact (x5 k hk).2 h
    · have := (hlt k (.inr hk)).2
      omega
theorem TxS.homes (a : TxS Z w0 W g gd gp gt n V r q F C D E) (hV : V ≤ 1073000000) : Calls Tryz.prog 157 #[.pointer (some ⟨gt, 0, none⟩)] W (RetV2 W (.int .i64 ((n - 2 - r : Nat) : Int))) := by
  obtain ⟨p, j, T, u, H, ws, M, U, s, t, _⟩ := a
  have := thomes_any t U (s.jok hV).2.1
  rwa [s.homes.1] at this
theorem TxS.commit (a : TxS Z w0 W g gd gp gt n V r q F C D E) (hV : V + n + 60 ≤ 1073000000) (hq : q ≤ 1073741824) (h40 : cntD D (n - 2 - r) ≤ 40) (hr : cntD D (n - 2 - r) < r) :
    Calls Tryz.prog 26 #[.pointer (some ⟨gt, 0, none⟩)] W fun en W' => en = .returned (.int .i64 0) ∧ JnS Z w0 W' g gd gp n (V + n + 43) r F E ∧ Only (fun k => ¬ E k) W W' := by
  obtain ⟨p, j, T, u, H, ws, M, U, s, t, x1, x2, x3, x4, x5⟩ := a
  have hcnt := cntD_frK (n - 2 - r) x3
  refine (commit_tx U s hV t (.inl (.inl rfl)) (by omega) (by omega) hq).mono ?_
  rintro en W' ⟨he, _, ⟨p', j', T', u', u2, s2, _, _⟩, y⟩
  exact ⟨he, ⟨p', j', T', u', _, u2.less (fun k hk => .inr hk), s2, x1, fun i hi => (x4 i hi).1⟩, y.mono (fun k _ hk h => hk.elim (fun h' => h' (.inr h)) (fun h' => (x5 k h).1 h'))⟩
theorem TxS.abort (a : TxS Z w0 W g gd gp gt n V r q F C D E) : Calls Tryz.prog 28 #[.pointer (some ⟨gt, 0, none⟩)] W fun e w' => e = .returned (.tuple #[]) ∧ JnS Z w0 w' g gd gp n V r C E ∧ Only (fun k => ¬ E k) W w' := by
  obtain ⟨p, j, T, u, H, ws, M, U, s, t, x1, x2, x3, x4, x5⟩ := a
  obtain ⟨gm, _, _, _, _, hg⟩ := t.cells
  refine (tabort_row _ hg rfl).mono ?_
  rintro e w' ⟨he, z, y⟩
  exact ⟨he, ⟨p, j, T, u, H, U.own (B' := E) (y.mono (fun k _ hk => .inl (.inl (.inl hk)))) (fun k hk => .inl (.inr hk)), s, x2, fun i hi => (x4 i hi).2⟩, y.mono (fun k _ hk h => (x5 k h).1 hk)⟩
theorem JnS.begin_ (a : JnS Z w0 W g gd gp n V r C E) (hV : V ≤ 1073000000) :
    Calls Tryz.prog 27 #[.pointer (some ⟨g, 0, none⟩)] W fun en W' => ∃ gt, en = .returned (.tuple #[.pointer (some ⟨gt, 0, none⟩), .int .i64 0]) ∧ TxS Z w0 W' g gd gp gt n V r 0 C C (fun _ => false) E ∧ Only (fun k => ¬ E k) W W' := by
  obtain ⟨p, j, T, u, H, U, s, e0, e1⟩ := a
  have hlt := U.lt
  refine (begin_up U s hV).mono ?_
  rintro en W' ⟨gt, gm, he, t, u2, h2, h3, y⟩
  refine ⟨gt, he, ⟨p, j, T, u, H, _, _, u2.less (fun k hk => ?_), s, t, fun i hi => ?_, e0, fun i hi => decide_eq_false (fun h => h (rep_emp _ _)), fun i hi => ⟨e1 i hi, e1 i hi⟩, fun k hk => ?_⟩, y⟩
  · rcases hk with (hk | hk) | hk
    · exact .inr (.inl hk)
    · exact .inr (.inr hk)
    · exact .inl hk
  · unfold txH
    rw [if_neg (by rw [rep_emp]; exact fun h => h rfl)]
    exact e0 i hi
  · have := (hlt k hk).2
    exact ⟨by omega, by omega⟩
/-! ### A space as such a transaction -/
def XS (h : Nat) (F C : Nat → List UInt8) (D : Nat → Bool) (H : Nat → List UInt8) (ws : List ByteArray) : Prop :=
  (∀ i, i < h → i ≠ 1 → txH H ws i = F i) ∧ (∀ i, i < h → H i = C i) ∧ (∀ i, i < h → i ≠ 1 → decide ((ws.getD i emp).size ≠ 0) = D i) ∧ ∀ i, i < h → (F i).length = 512 ∧ (C i).length = 512
theorem XS.st (h : Nat) (F C : Nat → List UInt8) (D : Nat → Bool) : StX (XS h F C D) := fun H ws l a => by
  obtain ⟨x1, x2, x3, x4⟩ := a
  have e0 : ∀ k, k ≠ 1 → (ws.set 1 (strB l)).getD k emp = ws.getD k emp := fun k hk => by rw [List.getD, List.getElem?_set, if_neg (fun h => hk h.symm)]; rfl
  exact ⟨fun i hi hn => by rw [← x1 i hi hn]; unfold txH; rw [e0 i hn], x2, fun i hi hn => by rw [e0 i hn]; exact x3 i hi hn, x4⟩
theorem TxS.sp (a : TxS Z w0 W g gd gp gt n V r q F C D E) (hfit : D 1 = true ∨ cntD D (n - 2 - r) < 40) : SpU (XS (n - 2 - r) F C D) Z w0 W g gd gp gt n V r q (F 1) E := by
  have sz := a.sz
  obtain ⟨p, j, T, u, H, ws, M, U, s, t, x1, x2, x3, x4, x5⟩ := a
  have hcnt := cntD_frK (n - 2 - r) x3
  exact ⟨p, j, T, u, H, ws, M, U, s, t, x1 1 (by omega), (x4 1 (by omega)).1, hfit.imp (fun h => by have := x3 1 (by omega); rw [h] at this; exact of_decide_eq_true this) (fun h => by omega), x5, fun i hi _ => x1 i hi, x2, fun i hi _ => x3 i hi, x4⟩
theorem SpU.tx {b : List UInt8} (a : SpU (XS (n - 2 - r) F C D) Z w0 W g gd gp gt n V r q b E) : ∃ d, TxS Z w0 W g gd gp gt n V r q (upd F 1 b) C (fun k => if k = 1 then d else D k) E := by
  obtain ⟨p, j, T, u, H, ws, M, U, s, t, x1, x2, x3, x4, y1, y2, y3, y4⟩ := a
  refine ⟨decide ((ws.getD 1 emp).size ≠ 0), p, j, T, u, H, ws, M, U, s, t, fun i hi => ?_, y2, fun i hi => ?_, fun i hi => ⟨?_, (y4 i hi).2⟩, x4⟩
  · unfold upd
    by_cases h1 : i = 1
    · rw [if_pos h1, h1]; exact x1
    · rw [if_neg h1]; exact y1 i hi h1
  · show _ = (if i = 1 then decide ((ws.getD 1 emp).size ≠ 0) else D i)
    by_cases h1 : i = 1
    · rw [if_pos h1, h1]
    · rw [if_neg h1]; exact y3 i hi h1
  · unfold upd
    by_cases h1 : i = 1
    · rw [if_pos h1]; exact x2
    · rw [if_neg h1]; exact (y4 i hi).1
end
end Go.Proofs.YtjpicaofgiagdaaGreat
namespace Go.Proofs.YtjpicaofgiagdaaGreat
open Go.RowKit Go.Maps
set_option linter.unusedVariables false
set_option linter.unusedSimpArgs false

/-- The k-th root. -/
def rootV (b0 : List UInt8) (k : Nat) : Nat := num ((b0.drop (4 * k)).take 4)
def rootL (b0 : List UInt8) (k v : Nat) : List UInt8 := b0.take (4 * k) ++ be 4 v ++ b0.drop (4 * k + 4)
theorem rootL_len {b0 : List UInt8} (h : b0.length = 512) {k v : Nat} (hk : k < 16) : (rootL b0 k v).length = 512 := by
  unfold rootL
  simp only [List.length_append, List.length_take, List.length_drop, be_length, h]
  omega
theorem rootV_lt (b0 : List UInt8) (k : Nat) : rootV b0 k < 4294967296 := by
  have h := num_lt ((b0.drop (4 * k)).take 4)
  have hl : ((b0.drop (4 * k)).take 4).length ≤ 4 := by rw [List.length_take]; omega
  have : 256 ^ ((b0.drop (4 * k)).take 4).length ≤ 256 ^ 4 := Nat.pow_le_pow_right (by omega) hl
  have e : (256 : Nat) ^ 4 = 4294967296 := rfl
  unfold rootV
  omega
theorem mayroot_any (k : Int) (w : World) (hn : -9223372036854775808 ≤ k ∧ k ≤ 9223372036854775807) (r : Bool) (hr : decide (0 ≤ k ∧ k < 16) = r) : Calls Tryz.prog 88 #[.int .i64 k] w fun e w' => e = .returned (.bool r) ∧ w = w' := by
  subst hr
  obtain ⟨h1, h2⟩ := hn
  go_enter Tryz.func88, Tryz.ntmps88
  go_wp2
  all_goals go_ret
  all_goals simp [*]
  all_goals omega
section
variable {X : (Nat → List UInt8) → List ByteArray → Prop} {Z : DK} {w0 W W' : World} {g gd gp gt n V r q : Nat} {F C : Nat → List UInt8} {D : Nat → Bool} {E : Nat → Prop} {b : List UInt8}
/-- What a function of space leaves. -/
def RetT (Z : DK) (w0 W : World) (g gd gp gt n V r q : Nat) (F C : Nat → List UInt8) (D : Nat → Bool) (E : Nat → Prop) (v : Value) (en : Ending) (W' : World) : Prop :=
  en = .returned v ∧ TxS Z w0 W' g gd gp gt n V r q F C D E ∧ Only (fun k => ¬ E k) W W'
set_option maxRecDepth 100000 in
set_option maxHeartbeats 1000000 in
theorem root_yes (a : TxS Z w0 W g gd gp gt n V r q F C D E) (hV : V ≤ 1073000000) (k : Nat) (hk : k < 16) :
    Calls Tryz.prog 25 #[.pointer (some ⟨gt, 0, none⟩), .int .i64 (k : Int)] W (RetT Z w0 W g gd gp gt n V r q F C D E (.tuple #[.int .u32 ((rootV (F 0) k : Nat) : Int), .int .i64 0])) := by
  have sz := a.sz
  have hl := sz.2.2 0 (by omega)
  have CR := Lib.hid (a.read hV 0 (by omega))
  have CM : Hid (∀ W, Calls Tryz.prog 88 #[.int .i64 (k : Int)] W fun e w' => e = .returned (.bool true) ∧ W = w') := Lib.hid (fun W => mayroot_any (k : Int) W (by omega) true (decide_eq_true (by omega)))
  have hlt := rootV_lt (F 0) k
  obtain ⟨v, hv⟩ : ∃ v, rootV (F 0) k = v := ⟨_, rfl⟩
  have HV := Lib.hid hv
  rw [hv] at hlt ⊢
  have HL := Lib.hid hl
  have e4 : (4 : Int) * (k : Int) = ((4 * k : Nat) : Int) := by omega
  have E4 := Lib.hid e4
  have hk4 : (4 : Int) * (k : Int) ≤ 60 := by omega
  have ew : IntKind.u32.wrap (v : Int) = (v : Int) := by rw [IntKind.wrap_u32]; omega
  clear a sz hl hv e4
  go_enter Tryz.func25, Tryz.ntmps25
  go_wp2_with (first
    | (go_at_call 87; refine CR.out.mono ?_; rintro e w1 ⟨A1, m1, c1, rfl, h1, hc1, hm1, t1, y1⟩
       have hl1 := h1.len
       have ca := at_ok A1 (F 0) m1 c1 (4 * k) 4 w1 h1 (by have := HL.out; omega) hc1 hm1 (by omega) (by omega) (by have := HL.out; omega)
       rw [show num (((F 0).drop (4 * k)).take 4) = v from HV.out] at ca
       have CA := Lib.hid ca
       have T1 := Lib.hid t1
       have Y1 := Lib.hid y1
       clear h1 t1 y1 ca hl1 hc1 hm1)
    | (go_at_call 88; refine (CM.out _).mono ?_; rintro e w2 ⟨rfl, rfl⟩)
    | (go_at_call 91; rw [E4.out]; refine CA.out.mono ?_; rintro e w3 ⟨rfl, rfl⟩))
  go_ret2
  exact ⟨rfl, T1.out, Y1.out⟩
set_option maxRecDepth 100000 in
set_option maxHeartbeats 1000000 in
theorem root_no (a : TxS Z w0 W g gd gp gt n V r q F C D E) (hV : V ≤ 1073000000) (k : Int) (hb : -9223372036854775808 ≤ k ∧ k ≤ 9223372036854775807) (hk : k < 0 ∨ 16 ≤ k) :
    Calls Tryz.prog 25 #[.pointer (some ⟨gt, 0, none⟩), .int .i64 k] W (RetT Z w0 W g gd gp gt n V r q F C D E (.tuple #[.int .u32 0, .int .i64 1])) := by
  have sz := a.sz
  have CR := Lib.hid (a.read hV 0 (by omega))
  have CM : Hid (∀ W, Calls Tryz.prog 88 #[.int .i64 k] W fun e w' => e = .returned (.bool false) ∧ W = w') := Lib.hid (fun W => mayroot_any k W hb false (decide_eq_false (by omega)))
  clear a sz hb hk
  go_enter Tryz.func25, Tryz.ntmps25
  go_wp2_with (first
    | (go_at_call 87; refine CR.out.mono ?_; rintro e w1 ⟨A1, m1, c1, rfl, h1, hc1, hm1, t1, y1⟩
       have T1 := Lib.hid t1
       have Y1 := Lib.hid y1
       clear h1 t1 y1 hc1 hm1)
    | (go_at_call 88; refine (CM.out _).mono ?_; rintro e w2 ⟨rfl, rfl⟩))
  go_ret2
  exact ⟨rfl, T1.out, Y1.out⟩
set_option maxRecDepth 100000 in
set_option maxHeartbeats 1000000 in
theorem setroot_no (a : TxS Z w0 W g gd gp gt n V r q F C D E) (hV : V ≤ 1073000000) (k v : Int) (hb : -9223372036854775808 ≤ k ∧ k ≤ 9223372036854775807) (hk : k < 0 ∨ 16 ≤ k) :
    Calls Tryz.prog 24 #[.pointer (some ⟨gt, 0, none⟩), .int .i64 k, .int .u32 v] W (RetT Z w0 W g gd gp gt n V r q F C D E (.int .i64 1)) := by
  have sz := a.sz
  have CR := Lib.hid (a.read hV 0 (by omega))
  have CM : Hid (∀ W, Calls Tryz.prog 88 #[.int .i64 k] W fun e w' => e = .returned (.bool false) ∧ W = w') := Lib.hid (fun W => mayroot_any k W hb false (decide_eq_false (by omega)))
  clear a sz hb hk
  go_enter Tryz.func24, Tryz.ntmps24
  go_wp2_with (first
    | (go_at_call 87; refine CR.out.mono ?_; rintro e w1 ⟨A1, m1, c1, rfl, h1, hc1, hm1, t1, y1⟩
       have T1 := Lib.hid t1
       have Y1 := Lib.hid y1
       clear h1 t1 y1 hc1 hm1)
    | (go_at_call 88; refine (CM.out _).mono ?_; rintro e w2 ⟨rfl, rfl⟩))
  go_ret
  exact ⟨rfl, T1.out, Y1.out⟩
set_option maxRecDepth 100000 in
set_option maxHeartbeats 2000000 in
theorem setroot_yes (a : TxS Z w0 W g gd gp gt n V r q F C D E) (hV : V ≤ 1073000000) (hq : q < 1073741824) (hfit : D 0 = true ∨ cntD D (n - 2 - r) < 40) (k v : Nat) (hk : k < 16) (hv : v < 4294967296) :
    Calls Tryz.prog 24 #[.pointer (some ⟨gt, 0, none⟩), .int .i64 (k : Int), .int .u32 (v : Int)] W (RetT Z w0 W g gd gp gt n V r (q + 1) (upd F 0 (rootL (F 0) k v)) C (fun i => if i = 0 then true else D i) E (.int .i64 0)) := by
  have sz := a.sz
  have hl := sz.2.2 0 (by omega)
  have CR := Lib.hid (a.read hV 0 (by omega))
  have CM : Hid (∀ W, Calls Tryz.prog 88 #[.int .i64 (k : Int)] W fun e w' => e = .returned (.bool true) ∧ W = w') := Lib.hid (fun W => mayroot_any (k : Int) W (by omega) true (decide_eq_true (by omega)))
  have CW : Hid (∀ W A c, TxS Z w0 W g gd gp gt n V r q F C D E → HasB W W.heap.size A 512 (rootL (F 0) k v) → 512 ≤ c → Calls Tryz.prog 90 #[.pointer (some ⟨gt, 0, none⟩), .int .i64 ((0 : Nat) : Int), .slice A 512 c] W fun en W' => en = .returned (.int .i64 0) ∧ TxS Z w0 W' g gd gp gt n V r (q + 1) (upd F 0 (rootL (F 0) k v)) C (fun i => if i = 0 then true else D i) E ∧ Only (fun k => ¬ E k) W W') := Lib.hid (fun W A c t h hc => t.write hV hq 0 (by omega) hfit A c _ h (rootL_len hl hk) hc)
  have HL := Lib.hid hl
  have e4 : (4 : Int) * (k : Int) = ((4 * k : Nat) : Int) := by omega
  have E4 := Lib.hid e4
  have hk4 : (4 : Int) * (k : Int) ≤ 60 := by omega
  have hk60 : 4 * k ≤ 60 := by omega
  clear a sz hl e4
  go_enter Tryz.func24, Tryz.ntmps24
  go_upto_region 6 with (first
    | (go_at_call 87; refine CR.out.mono ?_; rintro e w1 ⟨A1, m1, c1, rfl, h1, hc1, hm1, t1, y1⟩
       have hl1 := h1.len
       rw [HL.out] at hl1
       subst hl1
       have H1 := Lib.hid h1
       have T1 := Lib.hid t1
       have Y1 := Lib.hid y1
       clear h1 t1 y1)
    | (go_at_call 88; refine (CM.out _).mono ?_; rintro e w2 ⟨rfl, rfl⟩))
  obtain ⟨g1, o1, rfl, _, _⟩ := H1.out.2 (by omega)
  have hw := H1.out.window (k := 0) (s := 4 * k) (by have := HL.out; omega) (A' := some ⟨g1, o1, none⟩) (m := 4 * k) rfl (fun _ => rfl)
  rw [List.drop_zero] at hw
  have CP := Lib.hid (put_ok (some ⟨g1, o1, none⟩) ((F 0).take (4 * k)) (4 * k) c1 v 4 w1 hw (by omega) (by omega) (by omega) (by omega) (by have : (256 : Nat) ^ 4 = 4294967296 := rfl; omega))
  clear hw
  go_upto_region 9 with (first
    | (go_at_call 89; refine CP.out.mono ?_; rintro e w3 ⟨A3, n3, c3, rfl, o3, b3⟩
       have hn3 := o3.len
       rw [List.length_append, be_length, List.length_take, HL.out] at hn3
       have N3 : Hid (n3 = 4 * k + 4) := Lib.hid (by omega)
       have hn64 : n3 ≤ 64 := by omega
       have O3 := Lib.hid o3
       have H3 := Lib.hid (H1.out.on b3)
       have B3 := Lib.hid b3
       clear o3 b3 hn3))
  have hcn : ¬ c1 = n3 := by omega
  have hw2 := H3.out.window (k := n3) (s := 512 - n3) (by have := HL.out; omega) (A' := some ⟨g1, o1 + n3, none⟩) (m := 512 - n3) rfl (fun _ => rfl)
  have hr : (F 0).take (4 * k) ++ be 4 v ++ ((F 0).drop n3).take (512 - n3) = rootL (F 0) k v := by
    unfold rootL
    rw [N3.out, List.take_of_length_le (l := (F 0).drop (4 * k + 4)) (by rw [List.length_drop, HL.out]; exact Nat.le_refl _)]
  have HR := Lib.hid hr
  have HW := Lib.hid hw2
  clear hw2 hr
  go_wp2_with (first
    | (at_builtin; go_loud (refine wp_app rfl (.tmp 35) (.tmp 39) rfl Tryz.underlying72 infoU8 w1.heap.size _ _ _ rfl O3.out _ _ _ _ rfl HW.out (by have := HL.out; simp only [List.length_append, List.length_take, List.length_drop, be_length]; omega) B3.out.size ?_); intro A5 n5 c5 w5 hown5 hg5 hb5
       rw [HR.out] at hown5
       have hn5 := hown5.len
       rw [rootL_len HL.out hk] at hn5
       subst hn5
       have b15 : Below w1.heap.size w1 w5 := B3.out.trans hb5
       have CWW := Lib.hid (CW.out w5 A5 c5 (T1.out.below b15) hown5.has hown5.caps.1)
       have Y5 := Lib.hid (Y1.out.trans (Only.of_below b15 (Nat.le_refl _)))
       clear hown5 hg5 hb5 b15)
    | (go_at_call 90; refine CWW.out.mono ?_; rintro e w6 ⟨rfl, t6, y6⟩
       have T6 := Lib.hid t6
       have Y6 := Lib.hid (Y5.out.trans y6)
       clear t6 y6))
  go_ret
  exact ⟨rfl, T6.out, Y6.out⟩
/-! ### What is refused -/
set_option maxRecDepth 100000 in
theorem take_arg (a : SpU X Z w0 W g gd gp gt n V r q b E) (hV : V ≤ 1073000000) (k : Int) (hb : -9223372036854775808 ≤ k ∧ k ≤ 9223372036854775807) (hk : ¬ (1 ≤ k ∧ k ≤ 64)) :
    Calls Tryz.prog 19 #[.pointer (some ⟨gt, 0, none⟩), .int .i64 k] W (RetSp X Z w0 W g gd gp gt n V r q b E (.tuple #[.int .i64 0, .int .i64 1])) := by
  have CL := Lib.hid (load_any a hV)
  have CM : Hid (∀ W, Calls Tryz.prog 81 #[.int .i64 k] W fun e w' => e = .returned (.bool false) ∧ W = w') := Lib.hid (fun W => may_any k W hb false (decide_eq_false hk))
  clear a hb hk
  go_enter Tryz.func19, Tryz.ntmps19
  go_wp2_with (first
    | (go_at_call 80; refine CL.out.mono ?_; rintro e w1 ⟨gm, rfl, bm, s1, ne, y1⟩
       have S1 := Lib.hid (s1.less (E' := E) (fun q hq => .inl hq))
       have Y1 := Lib.hid y1
       clear bm s1 ne y1)
    | (go_at_call 81; refine (CM.out _).mono ?_; rintro e w2 ⟨rfl, rfl⟩))
  go_ret2
  exact ⟨rfl, S1.out, Y1.out⟩
set_option maxRecDepth 100000 in
theorem free_arg (a : SpU X Z w0 W g gd gp gt n V r q b E) (hV : V ≤ 1073000000) (s k : Int) (hb : -9223372036854775808 ≤ k ∧ k ≤ 9223372036854775807) (hk : ¬ (1 ≤ k ∧ k ≤ 64)) :
    Calls Tryz.prog 21 #[.pointer (some ⟨gt, 0, none⟩), .int .i64 s, .int .i64 k] W (RetSp X Z w0 W g gd gp gt n V r q b E (.int .i64 1)) := by
  have CL := Lib.hid (load_any a hV)
  have CM : Hid (∀ W, Calls Tryz.prog 81 #[.int .i64 k] W fun e w' => e = .returned (.bool false) ∧ W = w') := Lib.hid (fun W => may_any k W hb false (decide_eq_false hk))
  clear a hb hk
  go_enter Tryz.func21, Tryz.ntmps21
  go_wp2_with (first
    | (go_at_call 80; refine CL.out.mono ?_; rintro e w1 ⟨gm, rfl, bm, s1, ne, y1⟩
       have S1 := Lib.hid (s1.less (E' := E) (fun q hq => .inl hq))
       have Y1 := Lib.hid y1
       clear bm s1 ne y1)
    | (go_at_call 81; refine (CM.out _).mono ?_; rintro e w2 ⟨rfl, rfl⟩))
  go_ret
  exact ⟨rfl, S1.out, Y1.out⟩
set_option maxRecDepth 100000 in
set_option maxHeartbeats 1000000 in
theorem taken_arg (a : SpU X Z w0 W g gd gp gt n V r q b E) (hV : V ≤ 1073000000) (i : Int) (hb : -9223372036854775808 ≤ i ∧ i ≤ 9223372036854775807) (hi : i < 0 ∨ ((n - 2 - r : Nat) : Int) ≤ i) :
    Calls Tryz.prog 23 #[.pointer (some ⟨gt, 0, none⟩), .int .i64 i] W (RetSp X Z w0 W g gd gp gt n V r q b E (.tuple #[.bool false, .int .i64 1])) := by
  have CL := Lib.hid (load_any a hV)
  obtain ⟨h, hh⟩ : ∃ h, n - 2 - r = h := ⟨_, rfl⟩
  have HH := Lib.hid hh
  rw [hh] at hi
  obtain ⟨b1, b2⟩ := hb
  clear a hh
  by_cases h0 : i < 0
  · clear hi
    go_enter Tryz.func23, Tryz.ntmps23
    go_wp2_with (first
      | (go_at_call 80; refine CL.out.mono ?_; rintro e w1 ⟨gm, rfl, bm, s1, ne, y1⟩
         have S1 := Lib.hid (s1.less (E' := E) (fun q hq => .inl hq))
         have Y1 := Lib.hid y1
         clear bm s1 ne y1))
    go_ret2
    exact ⟨rfl, S1.out, Y1.out⟩
  · have hi' : (h : Int) ≤ i := by omega
    clear hi
    go_enter Tryz.func23, Tryz.ntmps23
    go_wp2_with (first
      | (go_at_call 80; refine CL.out.mono ?_; rintro e w1 ⟨gm, rfl, bm, s1, ne, y1⟩
         rw [HH.out] at bm
         have CH := bm.homes
         have S1 := Lib.hid (s1.less (E' := E) (fun q hq => .inl hq))
         have Y1 := Lib.hid y1
         clear bm s1 ne y1))
    go_ret2
    exact ⟨rfl, S1.out, Y1.out⟩
end
end Go.Proofs.YtjpicaofgiagdaaGreat
