/-
  Own work.
-/
import Derived.Test.YthoebjekkfhhgaaGreatCp9
import Derived.Test.YthoebjekkfhhgaaGreatS8
import Derived.Test.YthoebjekkfhhgaaGreatG7
set_option linter.unusedVariables false
set_option linter.unusedSimpArgs false
set_option maxRecDepth 100000
set_option maxHeartbeats 8000000
namespace Go.Proofs.YthoebjekkfhhgaaGreat
open Go.RowKit Go.Maps
def cntD (D : Nat -> Bool) : Nat -> Nat
 | 0 => 0
 | k + 1 => cntD D k + if D k then 1 else 0
theorem cntD_frK {ws : List ByteArray} {D : Nat -> Bool} : ∀ k, (∀ i, i < k -> decide ((ws.getD i emp).size ≠ 0) = D i) -> (frK ws k).length = cntD D k
 | 0, _ => rfl
 | k + 1, h => by
   rw [frK_succ, cntD, <- cntD_frK k (fun i hi => h i (by omega)), <- h k (by omega)]
   by_cases hz : (ws.getD k emp).size = 0
   · rw [if_pos hz, decide_eq_false (fun h => h hz)]; simp
   · rw [if_neg hz, decide_eq_true hz]; simp
def TxS (Z : DK) (w0 W : World) (g gd gp gt n V r q : Nat) (F C : Nat -> List UInt8) (D : Nat -> Bool) (E : Nat -> Prop) : Prop :=
 ∃ (p : Pt) (j : JM) (T u : Nat) (H : Nat -> List UInt8) (ws : List ByteArray) (M : Nat -> Prop), UpB Z w0 W g gd gp n p j (fun k => (k = gt \/ M k) \/ E k) /\ SJ p n V j T u r H /\ TO W gt g (T - 1) (n - 2 - r) q ws M /\
   (∀ i, i < n - 2 - r -> txH H ws i = F i) /\ (∀ i, i < n - 2 - r -> H i = C i) /\ (∀ i, i < n - 2 - r -> decide ((ws.getD i emp).size ≠ 0) = D i) /\ (∀ i, i < n - 2 - r -> (F i).length = 512 /\ (C i).length = 512) /\ ∀ k, E k -> k ≠ gt /\ ¬ M k
def JnS (Z : DK) (w0 W : World) (g gd gp n V r : Nat) (C : Nat -> List UInt8) (E : Nat -> Prop) : Prop :=
 ∃ (p : Pt) (j : JM) (T u : Nat) (H : Nat -> List UInt8), UpB Z w0 W g gd gp n p j E /\ SJ p n V j T u r H /\ (∀ i, i < n - 2 - r -> H i = C i) /\ ∀ i, i < n - 2 - r -> (C i).length = 512
section
variable {Z : DK} {w0 W W' : World} {g gd gp gt n V r q : Nat} {F C : Nat -> List UInt8} {D : Nat -> Bool} {E E' : Nat -> Prop}
theorem TxS.up (a : TxS Z w0 W g gd gp gt n V r q F C D E) : Below w0.heap.size w0 W := by
 obtain ⟨p, j, T, u, H, ws, M, U, _⟩ := a
 exact U.up.bel
theorem TxS.sz (a : TxS Z w0 W g gd gp gt n V r q F C D E) : 8 <= n - 2 - r /\ n - 2 - r <= 4096 /\ ∀ i, i < n - 2 - r -> (F i).length = 512 := by
 obtain ⟨p, j, T, u, H, ws, M, U, s, t, x1, x2, x3, x4, _⟩ := a
 obtain ⟨b1, b2, b3, b4, b5, b6, b7, b8, b9, b10, b11, b12⟩ := s.homes
 exact ⟨by omega, t.wl.2.2, fun i hi => (x4 i hi).1⟩
theorem TxS.lt (a : TxS Z w0 W g gd gp gt n V r q F C D E) : ∀ k, E k -> w0.heap.size <= k /\ k < W.heap.size := by
 obtain ⟨p, j, T, u, H, ws, M, U, _⟩ := a
 exact fun k hk => U.lt k (.inr hk)
theorem TxS.below (a : TxS Z w0 W g gd gp gt n V r q F C D E) (hb : Below W.heap.size W W') : TxS Z w0 W' g gd gp gt n V r q F C D E := by
 obtain ⟨p, j, T, u, H, ws, M, U, s, t, x⟩ := a
 exact ⟨p, j, T, u, H, ws, M, U.below hb, s, t.below hb, x⟩
theorem TxS.less (a : TxS Z w0 W g gd gp gt n V r q F C D E) (h : ∀ k, E' k -> E k) : TxS Z w0 W g gd gp gt n V r q F C D E' := by
 obtain ⟨p, j, T, u, H, ws, M, U, s, t, x1, x2, x3, x4, x5⟩ := a
 exact ⟨p, j, T, u, H, ws, M, U.less (fun k hk => hk.imp id (h k)), s, t, x1, x2, x3, x4, fun k hk => x5 k (h k hk)⟩
theorem TxS.congr {F' C' : Nat -> List UInt8} {D' : Nat -> Bool} (a : TxS Z w0 W g gd gp gt n V r q F C D E) (hF : ∀ i, i < n - 2 - r -> F i = F' i) (hC : ∀ i, i < n - 2 - r -> C i = C' i) (hD : ∀ i, i < n - 2 - r -> D i = D' i) : TxS Z w0 W g gd gp gt n V r q F' C' D' E := by
 obtain ⟨p, j, T, u, H, ws, M, U, s, t, x1, x2, x3, x4, x5⟩ := a
 exact ⟨p, j, T, u, H, ws, M, U, s, t, fun i hi => (x1 i hi).trans (hF i hi), fun i hi => (x2 i hi).trans (hC i hi), fun i hi => (x3 i hi).trans (hD i hi), fun i hi => by rw [<- hF i hi, <- hC i hi]; exact x4 i hi, x5⟩
theorem TxS.add (a : TxS Z w0 W g gd gp gt n V r q F C D E) (ho : Only (fun k => E k \/ W.heap.size <= k) W W') (hE : ∀ k, E' k -> E k \/ (W.heap.size <= k /\ k < W'.heap.size)) : TxS Z w0 W' g gd gp gt n V r q F C D E' := by
 obtain ⟨p, j, T, u, H, ws, M, U, s, t, x1, x2, x3, x4, x5⟩ := a
 have hlt := t.lt
 have hml := t.ml
 refine ⟨p, j, T, u, H, ws, M, U.own (ho.mono (fun k _ hk => hk.imp .inr id)) (fun k hk => ?_), s, t.only ho (fun h => h.elim (fun h => (x5 gt h).1 rfl) (fun h => by omega)) (fun k hk h => h.elim (fun h => (x5 k h).2 hk) (fun h => by have := hml k hk; omega)), x1, x2, x3, x4, fun k hk => ?_⟩
 · rcases hk with hk | hk
   · exact .inl (.inl hk)
   · exact (hE k hk).imp .inr id
 · rcases hE k hk with h | h
   · exact x5 k h
   · exact ⟨by omega, fun hM => by have := hml k hM; omega⟩
theorem TxS.le {V' : Nat} (a : TxS Z w0 W g gd gp gt n V r q F C D E) (h : V <= V') : TxS Z w0 W g gd gp gt n V' r q F C D E := by
 obtain ⟨p, j, T, u, H, ws, M, U, s, x⟩ := a
 exact ⟨p, j, T, u, H, ws, M, U, s.more h, x⟩
theorem TxS.read (a : TxS Z w0 W g gd gp gt n V r q F C D E) (hV : V <= 1073000000) (i : Nat) (hi : i < n - 2 - r) :
 Calls Tryz.prog 91 #[.pointer (some ⟨gt, 0, none⟩), .int .i64 (i : Int)] W fun en W' => ∃ A m c, en = .returned (.tuple #[.slice A m c, .int .i64 0]) /\ HasB W' W'.heap.size A m (F i) /\ m <= c /\ c <= maxLen /\ TxS Z w0 W' g gd gp gt n V r q F C D E /\ Only (fun k => ¬ E k) W W' := by
 obtain ⟨p, j, T, u, H, ws, M, U, s, t, x1, x2, x3, x4, x5⟩ := a
 by_cases h1 : (ws.getD i emp).size = 0
 · refine (tread_up U s hV t i hi h1).mono ?_
   rintro en W' ⟨A, m, c, he, hx, u2, y⟩
   have e : H i = F i := by rw [<- x1 i hi]; unfold txH; rw [if_neg (by rw [h1]; exact fun h => h rfl)]
   rw [e] at hx
   refine ⟨A, m, c, he, hx.has, hx.caps.1, hx.caps.2, ⟨p, j, T, u, H, ws, M, u2.less (fun k hk => .inl hk), s, t.only y (fun h => h (.inl (.inl rfl))) (fun k hk h => h (.inl (.inr hk))), x1, x2, x3, x4, x5⟩, y.mono (fun k _ hk h => hk (.inr h))⟩
 · refine (tread_own t i hi h1).mono ?_
   rintro en W' ⟨A, m, c, he, hx, hb⟩
   have e : lst (ws.getD i emp) = F i := by rw [<- x1 i hi]; unfold txH; rw [if_pos h1]
   rw [e] at hx
   exact ⟨A, m, c, he, hx.has, hx.caps.1, hx.caps.2, ⟨p, j, T, u, H, ws, M, U.below hb, s, t.below hb, x1, x2, x3, x4, x5⟩, Only.of_below hb (Nat.le_refl _)⟩
theorem TxS.write (a : TxS Z w0 W g gd gp gt n V r q F C D E) (hV : V <= 1073000000) (hq : q < 1073741824) (i : Nat) (hi : i < n - 2 - r) (hfit : D i = true \/ cntD D (n - 2 - r) < 40) (A : Option Addr) (c : Nat) (l : List UInt8) (hd : HasB W W.heap.size A 512 l) (hl : l.length = 512) (hc : 512 <= c) :
 Calls Tryz.prog 71 #[.pointer (some ⟨gt, 0, none⟩), .int .i64 (i : Int), .slice A 512 c] W fun en W' => en = .returned (.int .i64 0) /\ TxS Z w0 W' g gd gp gt n V r (q + 1) (upd F i l) C (fun k => if k = i then true else D k) E /\ Only (fun k => ¬ E k) W W' := by
 obtain ⟨p, j, T, u, H, ws, M, U, s, t, x1, x2, x3, x4, x5⟩ := a
 have hlt := U.lt
 have wl := t.wl
 have hcnt := cntD_frK (n - 2 - r) x3
 refine (write_up U s hV t (.inl (.inl rfl)) (fun k hk => .inl (.inr hk)) i hi A c l hd hl hc (hfit.imp (fun h => by have := x3 i hi; rw [h] at this; exact of_decide_eq_true this) (fun h => by omega)) hq).mono ?_
 rintro en W' ⟨he, M', t2, u2, hM, y⟩
 have e0 : ∀ k, k ≠ i -> (ws.set i (strB l)).getD k emp = ws.getD k emp := fun k hk => by rw [List.getD, List.getElem?_set, if_neg (fun h => hk h.symm)]; rfl
 have e1 : (ws.set i (strB l)).getD i emp = strB l := by rw [List.getD, List.getElem?_set, if_pos rfl, if_pos (by rw [wl.1]; exact hi)]; rfl
 refine ⟨he, ⟨p, j, T, u, H, _, M', u2.less (fun k hk => ?_), s, t2, fun k hk => ?_, x2, fun k hk => ?_, fun k hk => ⟨?_, (x4 k hk).2⟩, fun k hk => ⟨(x5 k hk).1, fun h => ?_⟩⟩, y.mono (fun k _ hk h => (x5 k h).1 hk)⟩
 · rcases hk with (hk | hk) | hk
   · exact .inl (.inl (.inl hk))
   · exact .inr hk
   · exact .inl (.inr hk)
 · unfold upd
   by_cases hki : k = i
   · subst hki
     unfold txH
     rw [e1, if_pos (strB_ne hl), if_pos rfl]
     exact lst_strB l
   · rw [if_neg hki, <- x1 k hk]
     unfold txH
     rw [e0 k hki]
 · by_cases hki : k = i
   · subst hki
     show _ = (if k = k then true else D k)
     rw [if_pos rfl, e1]
     exact decide_eq_true (strB_ne hl)
   · show _ = (if k = i then true else D k)
     rw [if_neg hki, e0 k hki]
     exact x3 k hk
 · unfold upd
   by_cases hki : k = i
   · rw [if_pos hki]; exact hl
   · rw [if_neg hki]; exact (x4 k hk).1
 · rcases hM k h with h | h
   · exact (x5 k hk).2 h
   · have := (hlt k (.inr hk)).2
     omega
theorem TxS.homes (a : TxS Z w0 W g gd gp gt n V r q F C D E) (hV : V <= 1073000000) : Calls Tryz.prog 92 #[.pointer (some ⟨gt, 0, none⟩)] W (RetV2 W (.int .i64 ((n - 2 - r : Nat) : Int))) := by
 obtain ⟨p, j, T, u, H, ws, M, U, s, t, _⟩ := a
 have := thomes_any t U (s.jok hV).2.1
 rwa [s.homes.1] at this
theorem TxS.commit (a : TxS Z w0 W g gd gp gt n V r q F C D E) (hV : V + n + 60 <= 1073000000) (hq : q <= 1073741824) (h40 : cntD D (n - 2 - r) <= 40) (hr : cntD D (n - 2 - r) < r) :
 Calls Tryz.prog 13 #[.pointer (some ⟨gt, 0, none⟩)] W fun en W' => en = .returned (.int .i64 0) /\ JnS Z w0 W' g gd gp n (V + n + 43) r F E /\ Only (fun k => ¬ E k) W W' := by
 obtain ⟨p, j, T, u, H, ws, M, U, s, t, x1, x2, x3, x4, x5⟩ := a
 have hcnt := cntD_frK (n - 2 - r) x3
 refine (commit_tx U s hV t (.inl (.inl rfl)) (by omega) (by omega) hq).mono ?_
 rintro en W' ⟨he, _, ⟨p', j', T', u', u2, s2, _, _⟩, y⟩
 exact ⟨he, ⟨p', j', T', u', _, u2.less (fun k hk => .inr hk), s2, x1, fun i hi => (x4 i hi).1⟩, y.mono (fun k _ hk h => hk.elim (fun h' => h' (.inr h)) (fun h' => (x5 k h).1 h'))⟩
theorem JnS.begin_ (a : JnS Z w0 W g gd gp n V r C E) (hV : V <= 1073000000) :
 Calls Tryz.prog 14 #[.pointer (some ⟨g, 0, none⟩)] W fun en W' => ∃ gt, en = .returned (.tuple #[.pointer (some ⟨gt, 0, none⟩), .int .i64 0]) /\ TxS Z w0 W' g gd gp gt n V r 0 C C (fun _ => false) E /\ Only (fun k => ¬ E k) W W' := by
 obtain ⟨p, j, T, u, H, U, s, e0, e1⟩ := a
 have hlt := U.lt
 refine (begin_up U s hV).mono ?_
 rintro en W' ⟨gt, gm, he, t, u2, h2, h3, y⟩
 refine ⟨gt, he, ⟨p, j, T, u, H, _, _, u2.less (fun k hk => ?_), s, t, fun i hi => ?_, e0, fun i hi => decide_eq_false (fun h => h (rep_emp _ _)), fun i hi => ⟨e1 i hi, e1 i hi⟩, fun k hk => ?_⟩, y⟩
 · rcases hk with (hk | hk) | hk
   · exact .inr (.inl hk)
   · exact .inr (.inr hk)
   · exact .inl hk
 · unfold txH
   rw [if_neg (by rw [rep_emp]; exact fun h => h rfl)]
   exact e0 i hi
 · have := (hlt k hk).2
   exact ⟨by omega, by omega⟩
def XS (h : Nat) (F C : Nat -> List UInt8) (D : Nat -> Bool) (H : Nat -> List UInt8) (ws : List ByteArray) : Prop :=
 (∀ i, i < h -> i ≠ 1 -> txH H ws i = F i) /\ (∀ i, i < h -> H i = C i) /\ (∀ i, i < h -> i ≠ 1 -> decide ((ws.getD i emp).size ≠ 0) = D i) /\ ∀ i, i < h -> (F i).length = 512 /\ (C i).length = 512
theorem XS.st (h : Nat) (F C : Nat -> List UInt8) (D : Nat -> Bool) : StX (XS h F C D) := fun H ws l a => by
 obtain ⟨x1, x2, x3, x4⟩ := a
 have e0 : ∀ k, k ≠ 1 -> (ws.set 1 (strB l)).getD k emp = ws.getD k emp := fun k hk => by rw [List.getD, List.getElem?_set, if_neg (fun h => hk h.symm)]; rfl
 exact ⟨fun i hi hn => by rw [<- x1 i hi hn]; unfold txH; rw [e0 i hn], x2, fun i hi hn => by rw [e0 i hn]; exact x3 i hi hn, x4⟩
theorem TxS.sp (a : TxS Z w0 W g gd gp gt n V r q F C D E) (hfit : D 1 = true \/ cntD D (n - 2 - r) < 40) : SpU (XS (n - 2 - r) F C D) Z w0 W g gd gp gt n V r q (F 1) E := by
 have sz := a.sz
 obtain ⟨p, j, T, u, H, ws, M, U, s, t, x1, x2, x3, x4, x5⟩ := a
 have hcnt := cntD_frK (n - 2 - r) x3
 exact ⟨p, j, T, u, H, ws, M, U, s, t, x1 1 (by omega), (x4 1 (by omega)).1, hfit.imp (fun h => by have := x3 1 (by omega); rw [h] at this; exact of_decide_eq_true this) (fun h => by omega), x5, fun i hi _ => x1 i hi, x2, fun i hi _ => x3 i hi, x4⟩
theorem SpU.tx {b : List UInt8} (a : SpU (XS (n - 2 - r) F C D) Z w0 W g gd gp gt n V r q b E) : ∃ d, TxS Z w0 W g gd gp gt n V r q (upd F 1 b) C (fun k => if k = 1 then d else D k) E := by
 obtain ⟨p, j, T, u, H, ws, M, U, s, t, x1, x2, x3, x4, y1, y2, y3, y4⟩ := a
 refine ⟨decide ((ws.getD 1 emp).size ≠ 0), p, j, T, u, H, ws, M, U, s, t, fun i hi => ?_, y2, fun i hi => ?_, fun i hi => ⟨?_, (y4 i hi).2⟩, x4⟩
 · unfold upd
   by_cases h1 : i = 1
   · rw [if_pos h1, h1]; exact x1
   · rw [if_neg h1]; exact y1 i hi h1
 · show _ = (if i = 1 then decide ((ws.getD 1 emp).size ≠ 0) else D i)
   by_cases h1 : i = 1
   · rw [if_pos h1, h1]
   · rw [if_neg h1]; exact y3 i hi h1
 · unfold upd
   by_cases h1 : i = 1
   · rw [if_pos h1]; exact x2
   · rw [if_neg h1]; exact (y4 i hi).1
end
section
variable {X : (Nat -> List UInt8) -> List ByteArray -> Prop} {Z : DK} {w0 W W' : World} {g gd gp gt n V r q : Nat} {F C : Nat -> List UInt8} {D : Nat -> Bool} {E : Nat -> Prop} {b : List UInt8}
theorem take_arg (a : SpU X Z w0 W g gd gp gt n V r q b E) (hV : V <= 1073000000) (k : Int) (hb : -9223372036854775808 <= k /\ k <= 9223372036854775807) (hk : ¬ (1 <= k /\ k <= 64)) :
 Calls Tryz.prog 25 #[.pointer (some ⟨gt, 0, none⟩), .int .i64 k] W (RetSp X Z w0 W g gd gp gt n V r q b E (.tuple #[.int .i64 0, .int .i64 1])) := by
 have CL := lH (load_any a hV)
 have CM : Hid (∀ W, Calls Tryz.prog 54 #[.int .i64 k] W fun e w' => e = .returned (.bool false) /\ W = w') := lH (fun W => may_any k W hb false (decide_eq_false hk))
 clear a hb hk
 go_enter Tryz.func25, Tryz.ntmps25
 go_wp2_with (first
  | (go_at_call 53; refine CL.out.mono ?_; rintro e w1 ⟨gm, rfl, bm, s1, ne, y1⟩
     have S1 := lH (s1.less (E' := E) (fun q hq => .inl hq))
     have Y1 := lH y1
     clear bm s1 ne y1)
  | (go_at_call 54; refine (CM.out _).mono ?_; rintro e w2 ⟨rfl, rfl⟩))
 go_ret2
 exact ⟨rfl, S1.out, Y1.out⟩
theorem free_arg (a : SpU X Z w0 W g gd gp gt n V r q b E) (hV : V <= 1073000000) (s k : Int) (hb : -9223372036854775808 <= k /\ k <= 9223372036854775807) (hk : ¬ (1 <= k /\ k <= 64)) :
 Calls Tryz.prog 94 #[.pointer (some ⟨gt, 0, none⟩), .int .i64 s, .int .i64 k] W (RetSp X Z w0 W g gd gp gt n V r q b E (.int .i64 1)) := by
 have CL := lH (load_any a hV)
 have CM : Hid (∀ W, Calls Tryz.prog 54 #[.int .i64 k] W fun e w' => e = .returned (.bool false) /\ W = w') := lH (fun W => may_any k W hb false (decide_eq_false hk))
 clear a hb hk
 go_enter Tryz.func94, Tryz.ntmps94
 go_wp2_with (first
  | (go_at_call 53; refine CL.out.mono ?_; rintro e w1 ⟨gm, rfl, bm, s1, ne, y1⟩
     have S1 := lH (s1.less (E' := E) (fun q hq => .inl hq))
     have Y1 := lH y1
     clear bm s1 ne y1)
  | (go_at_call 54; refine (CM.out _).mono ?_; rintro e w2 ⟨rfl, rfl⟩))
 go_ret
 exact ⟨rfl, S1.out, Y1.out⟩
end
end Go.Proofs.YthoebjekkfhhgaaGreat
