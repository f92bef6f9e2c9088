/-
  Own work.
-/
import Derived.Test.YthoebjekkfhhgaaGreatCp9
import Derived.Test.YthoebjekkfhhgaaGreatSq8
import Derived.Test.YthoebjekkfhhgaaGreatPc
import Derived.Test.YthoebjekkfhhgaaGreatRg
import Derived.Laws.ResultCell
set_option linter.unusedVariables false
set_option linter.unusedSimpArgs false
set_option maxRecDepth 100000
set_option maxHeartbeats 8000000
namespace Go.Proofs.YthoebjekkfhhgaaGreat
open Go.RowKit Go.Maps
def T3 (Z : DK) (w0 W : World) (g gd gp gt n V r q c : Nat) (F C : Nat -> List UInt8) (E : Nat -> Prop) : Prop :=
 ∃ D q', q' <= q /\ TxS Z w0 W g gd gp gt n V r q' F C D E /\ cntD D (n - 2 - r) <= c
theorem cntD_put (D : Nat -> Bool) (i : Nat) (d : Bool) : ∀ k, cntD (fun j => if j = i then d else D j) k <= cntD D k + 1 /\ (k <= i -> cntD (fun j => if j = i then d else D j) k = cntD D k)
 | 0 => ⟨by unfold cntD; omega, fun _ => rfl⟩
 | k + 1 => by
   obtain ⟨h1, h2⟩ := cntD_put D i d k
   rw [cntD, cntD]
   by_cases h : k = i
   · subst h
     have := h2 (Nat.le_refl _)
     refine ⟨?_, fun h => by omega⟩
     rw [this]
     simp only [if_true]
     split <;> split <;> omega
   · simp only [if_neg h]
     refine ⟨by omega, fun hk => by rw [h2 (by omega)]⟩
section
variable {Z : DK} {w0 W W' : World} {g gd gp gt n V r q c : Nat} {F C : Nat -> List UInt8} {D : Nat -> Bool} {E E' : Nat -> Prop}
theorem TxS.read2 (a : TxS Z w0 W g gd gp gt n V r q F C D E) (hV : V <= 1073000000) (i : Nat) (hi : i < n - 2 - r) :
 Calls Tryz.prog 91 #[.pointer (some ⟨gt, 0, none⟩), .int .i64 (i : Int)] W fun en W' => ∃ A m c, en = .returned (.tuple #[.slice A m c, .int .i64 0]) /\ OwnX W' W.heap.size (.slice A m c) (F i) /\ TxS Z w0 W' g gd gp gt n V r q F C D (fun k => E k \/ InB A k) /\ Only (fun k => ¬ E k) W W' := by
 obtain ⟨p, j, T, u, H, ws, M, U, s, t, x1, x2, x3, x4, x5⟩ := a
 have hlt := U.lt
 by_cases h1 : (ws.getD i emp).size = 0
 · refine (tread_up U s hV t i hi h1).mono ?_
   rintro en W' ⟨A, m, c, he, hx, u2, y⟩
   have e : H i = F i := by rw [<- x1 i hi]; unfold txH; rw [if_neg (by rw [h1]; exact fun h => h rfl)]
   rw [e] at hx
   have hA : ∀ k, InB A k -> W.heap.size <= k := by
    rintro k ⟨a, ha, rfl⟩
    rcases hx.form with ⟨e', _⟩ | ⟨_, g', _, _, e', hb, _⟩
    · injection e' with e'; rw [e'] at ha; cases ha
    · injection e' with e'; rw [e'] at ha; injection ha with ha; rw [<- ha]; exact hb
   refine ⟨A, m, c, he, hx, ⟨p, j, T, u, H, ws, M, u2.less (fun k hk => hk.elim (fun h => .inl (.inl h)) (fun h => h.elim (fun h => .inl (.inr h)) .inr)), s, t.only y (fun h => h (.inl (.inl rfl))) (fun k hk h => h (.inl (.inr hk))), x1, x2, x3, x4, fun k hk => ?_⟩, y.mono (fun k _ hk h => hk (.inr h))⟩
   rcases hk with hk | hk
   · exact x5 k hk
   · have := hA k hk
     exact ⟨fun e => by have := (hlt gt (.inl (.inl rfl))).2; omega, fun hM => by have := (hlt k (.inl (.inr hM))).2; omega⟩
 · refine (tread_own t i hi h1).mono ?_
   rintro en W' ⟨A, m, c, he, hx, hb⟩
   have e : lst (ws.getD i emp) = F i := by rw [<- x1 i hi]; unfold txH; rw [if_pos h1]
   rw [e] at hx
   have hA : ∀ k, InB A k -> W.heap.size <= k /\ k < W'.heap.size := by
    rintro k ⟨a, ha, rfl⟩
    rcases hx.form with ⟨e', _⟩ | ⟨_, g', _, _, e', hb, hl, _⟩
    · injection e' with e'; rw [e'] at ha; cases ha
    · injection e' with e'; rw [e'] at ha; injection ha with ha; rw [<- ha]; exact ⟨hb, hl⟩
   have a' : TxS Z w0 W g gd gp gt n V r q F C D E := ⟨p, j, T, u, H, ws, M, U, s, t, x1, x2, x3, x4, x5⟩
   exact ⟨A, m, c, he, hx, a'.add (Only.of_below hb (Nat.le_refl _)) (fun k hk => hk.imp id (hA k)), Only.of_below hb (Nat.le_refl _)⟩
theorem T3.sz (a : T3 Z w0 W g gd gp gt n V r q c F C E) : 8 <= n - 2 - r /\ n - 2 - r <= 4096 /\ ∀ i, i < n - 2 - r -> (F i).length = 512 := by
 obtain ⟨D, q', _, t, _⟩ := a
 exact t.sz
theorem T3.up (a : T3 Z w0 W g gd gp gt n V r q c F C E) : Below w0.heap.size w0 W := by
 obtain ⟨D, q', _, t, _⟩ := a
 exact t.up
theorem T3.lt (a : T3 Z w0 W g gd gp gt n V r q c F C E) : ∀ k, E k -> w0.heap.size <= k /\ k < W.heap.size := by
 obtain ⟨D, q', _, t, _⟩ := a
 exact t.lt
theorem T3.congr {F' C' : Nat -> List UInt8} (a : T3 Z w0 W g gd gp gt n V r q c F C E) (hF : ∀ i, i < n - 2 - r -> F i = F' i) (hC : ∀ i, i < n - 2 - r -> C i = C' i) : T3 Z w0 W g gd gp gt n V r q c F' C' E := by
 obtain ⟨D, q', h, t, hd⟩ := a
 exact ⟨D, q', h, t.congr hF hC (fun _ _ => rfl), hd⟩
theorem T3.add (a : T3 Z w0 W g gd gp gt n V r q c F C E) (ho : Only (fun k => E k \/ W.heap.size <= k) W W') (hE : ∀ k, E' k -> E k \/ (W.heap.size <= k /\ k < W'.heap.size)) : T3 Z w0 W' g gd gp gt n V r q c F C E' := by
 obtain ⟨D, q', h, t, hd⟩ := a
 exact ⟨D, q', h, t.add ho hE, hd⟩
theorem T3.less (a : T3 Z w0 W g gd gp gt n V r q c F C E) (h : ∀ k, E' k -> E k) : T3 Z w0 W g gd gp gt n V r q c F C E' := by
 obtain ⟨D, q', h1, t, hd⟩ := a
 exact ⟨D, q', h1, t.less h, hd⟩
theorem T3.more {V' q2 c2 : Nat} (a : T3 Z w0 W g gd gp gt n V r q c F C E) (h : V <= V') (hq : q <= q2) (hc : c <= c2) : T3 Z w0 W g gd gp gt n V' r q2 c2 F C E := by
 obtain ⟨D, q', h1, t, hd⟩ := a
 exact ⟨D, q', by omega, t.le h, by omega⟩
theorem T3.read (a : T3 Z w0 W g gd gp gt n V r q c F C E) (hV : V <= 1073000000) (i : Nat) (hi : i < n - 2 - r) :
 Calls Tryz.prog 91 #[.pointer (some ⟨gt, 0, none⟩), .int .i64 (i : Int)] W fun en W' => ∃ A m c', en = .returned (.tuple #[.slice A m c', .int .i64 0]) /\ OwnX W' W.heap.size (.slice A m c') (F i) /\ T3 Z w0 W' g gd gp gt n V r q c F C (fun k => E k \/ InB A k) /\ Only (fun k => ¬ E k) W W' := by
 obtain ⟨D, q', h, t, hd⟩ := a
 refine (t.read2 hV i hi).mono ?_
 rintro en W' ⟨A, m, c', he, hx, t', y⟩
 exact ⟨A, m, c', he, hx, ⟨D, q', h, t', hd⟩, y⟩
theorem T3.write (a : T3 Z w0 W g gd gp gt n V r q c F C E) (hV : V <= 1073000000) (hq : q < 1073741824) (hc : c < 40) (i : Nat) (hi : i < n - 2 - r) (A : Option Addr) (c' : Nat) (l : List UInt8) (hd : HasB W W.heap.size A 512 l) (hl : l.length = 512) (hcc : 512 <= c') :
 Calls Tryz.prog 71 #[.pointer (some ⟨gt, 0, none⟩), .int .i64 (i : Int), .slice A 512 c'] W fun en W' => en = .returned (.int .i64 0) /\ T3 Z w0 W' g gd gp gt n V r (q + 1) (c + 1) (upd F i l) C E /\ Only (fun k => ¬ E k) W W' := by
 obtain ⟨D, q', h, t, hdd⟩ := a
 refine (t.write hV (by omega) i hi (.inr (by omega)) A c' l hd hl hcc).mono ?_
 rintro en W' ⟨he, t', y⟩
 exact ⟨he, ⟨_, q' + 1, by omega, t', Nat.le_trans (cntD_put D i true _).1 (by omega)⟩, y⟩
theorem T3.of_sp {q0 : Nat} {b : List UInt8} (hq : q0 <= q) (hd : cntD D (n - 2 - r) <= c) (a : SpU (XS (n - 2 - r) F C D) Z w0 W g gd gp gt n V r q0 b E) : T3 Z w0 W g gd gp gt n V r q (c + 1) (upd F 1 b) C E := by
 obtain ⟨d, t⟩ := a.tx
 exact ⟨_, q0, hq, t, Nat.le_trans (cntD_put D 1 d _).1 (by omega)⟩
theorem T3.take (a : T3 Z w0 W g gd gp gt n V r q c F C E) (hV : V <= 1073000000) (hq : q < 1073741824) (hc : c < 40) (z : Int) (hz : Bd z) :
 Calls Tryz.prog 25 #[.pointer (some ⟨gt, 0, none⟩), .int .i64 z] W fun en W' => ∃ x f b', en = .returned (.tuple #[.int .i64 x, .int .i64 f]) /\ IsTake (F 1) (n - 2 - r) z x f b' /\ T3 Z w0 W' g gd gp gt n V r (q + 1) (c + 1) (upd F 1 b') C E /\ Only (fun k => ¬ E k) W W' := by
 obtain ⟨D, q', h, t, hd⟩ := a
 have sp := t.sp (.inr (by omega))
 by_cases hz1 : 1 <= z /\ z <= 64
 · obtain ⟨k, rfl⟩ := Int.eq_ofNat_of_zero_le (show 0 <= z by omega)
   rcases gap_or (F 1) (n - 2 - r) k with ng | ⟨s, sg⟩
   · refine (take_no sp hV k (by omega) (by omega) ng).mono ?_
     rintro en W' ⟨rfl, s', y⟩
     exact ⟨0, 7, F 1, rfl, .inr (.inl ⟨k, rfl, by omega, by omega, ng, rfl, rfl, rfl⟩), T3.of_sp (by omega) hd s', y⟩
   · refine (take_yes (XS.st _ _ _ _) sp hV (by omega) k s (by omega) (by omega) sg).mono ?_
     rintro en W' ⟨rfl, s', y⟩
     exact ⟨s, 0, _, rfl, .inr (.inr ⟨k, s, rfl, by omega, by omega, sg, rfl, rfl, rfl⟩), T3.of_sp (by omega) hd s', y⟩
 · refine (take_arg sp hV z hz hz1).mono ?_
   rintro en W' ⟨rfl, s', y⟩
   exact ⟨0, 1, F 1, rfl, .inl ⟨hz1, rfl, rfl, rfl⟩, T3.of_sp (by omega) hd s', y⟩
theorem T3.free (a : T3 Z w0 W g gd gp gt n V r q c F C E) (hV : V <= 1073000000) (hq : q < 1073741824) (hc : c < 40) (s k : Nat) (h1 : 1 <= k) (h2 : k <= 64) (hx : IsExt (F 1) (n - 2 - r) (s : Int) (k : Int)) :
 Calls Tryz.prog 94 #[.pointer (some ⟨gt, 0, none⟩), .int .i64 (s : Int), .int .i64 (k : Int)] W fun en W' => en = .returned (.int .i64 0) /\ T3 Z w0 W' g gd gp gt n V r (q + 1) (c + 1) (upd F 1 (flipL (F 1) s k)) C E /\ Only (fun k => ¬ E k) W W' := by
 obtain ⟨D, q', h, t, hd⟩ := a
 refine (free_yes (XS.st _ _ _ _) (t.sp (.inr (by omega))) hV (by omega) s k h1 h2 hx).mono ?_
 rintro en W' ⟨rfl, s', y⟩
 exact ⟨rfl, T3.of_sp (by omega) hd s', y⟩
theorem T3.commit (a : T3 Z w0 W g gd gp gt n V r q c F C E) (hV : V + n + 60 <= 1073000000) (hq : q <= 1073741824) (hc : c <= 40) (hr : c < r) :
 Calls Tryz.prog 13 #[.pointer (some ⟨gt, 0, none⟩)] W fun en W' => en = .returned (.int .i64 0) /\ JnS Z w0 W' g gd gp n (V + n + 43) r F E /\ Only (fun k => ¬ E k) W W' := by
 obtain ⟨D, q', h, x, hd⟩ := a
 exact x.commit hV (by omega) (by omega) (by omega)
theorem JnS.begin3 (a : JnS Z w0 W g gd gp n V r C E) (hV : V <= 1073000000) :
 Calls Tryz.prog 14 #[.pointer (some ⟨g, 0, none⟩)] W fun en W' => ∃ gt, en = .returned (.tuple #[.pointer (some ⟨gt, 0, none⟩), .int .i64 0]) /\ T3 Z w0 W' g gd gp gt n V r 0 0 C C E /\ Only (fun k => ¬ E k) W W' := by
 refine (a.begin_ hV).mono ?_
 rintro en W' ⟨gt, he, t, y⟩
 exact ⟨gt, he, ⟨_, 0, Nat.le_refl _, t, by
  have : ∀ k, cntD (fun _ => false) k = 0 := fun k => by induction k with | zero => rfl | succ k ih => rw [cntD, ih]; simp
  rw [this]; exact Nat.le_refl _⟩, y⟩
end
def rd (F : Nat -> List UInt8) (st at_ n : Nat) : List UInt8 := (List.range n).map fun i => (F (st + (at_ + i) / 512)).getD ((at_ + i) % 512) 0
theorem rd_len (F : Nat -> List UInt8) (st at_ n : Nat) : (rd F st at_ n).length = n := by simp [rd]
theorem rd_at (F : Nat -> List UInt8) (st at_ : Nat) {n i : Nat} (h : i < n) : (rd F st at_ n)[i]? = some ((F (st + (at_ + i) / 512)).getD ((at_ + i) % 512) 0) := by
 unfold rd
 rw [List.getElem?_map, List.getElem?_range h]; rfl
theorem rd_step {F : Nat -> List UInt8} {st at_ d fr k sec : Nat} (hs : st + (at_ + d) / 512 = sec) (hf : (at_ + d) % 512 = fr) (hk : fr + k <= 512) (hl : (F sec).length = 512) : rd F st at_ (d + k) = rd F st at_ d ++ ((F sec).drop fr).take k := by
 apply List.ext_getElem?
 intro i
 by_cases h1 : i < d
 · rw [List.getElem?_append_left (by rw [rd_len]; exact h1), rd_at _ _ _ (by omega), rd_at _ _ _ h1]
 · rw [List.getElem?_append_right (by rw [rd_len]; omega), rd_len, List.getElem?_take]
   by_cases h2 : i < d + k
   · rw [rd_at _ _ _ h2, if_pos (by omega), List.getElem?_drop]
     have e1 : (at_ + i) / 512 = (at_ + d) / 512 := by omega
     have e2 : (at_ + i) % 512 = fr + (i - d) := by omega
     rw [e1, hs, e2, List.getD]
     have h3 : fr + (i - d) < (F sec).length := by omega
     rw [List.getElem?_eq_getElem h3]; rfl
   · rw [if_neg (by omega), List.getElem?_eq_none (by rw [rd_len]; omega)]
end Go.Proofs.YthoebjekkfhhgaaGreat
namespace Go.Proofs.YthoebjekkfhhgaaGreat
open Go.RowKit Go.Maps Go.Shelf
attribute [local go_sem] Oper.semAt_some
theorem alloc4 {W Wa : World} {o0 o1 o2 o3 : Obj} (h : (((W.alloc o0).alloc o1).alloc o2).alloc o3 = Wa) : Wa.heap.size = W.heap.size + 4 /\ Wa.heap[W.heap.size]? = some o0 /\ Wa.heap[W.heap.size + 1]? = some o1 /\ Wa.heap[W.heap.size + 2]? = some o2 /\ Wa.heap[W.heap.size + 3]? = some o3 /\ Below W.heap.size W Wa := by
 obtain ⟨W1, h1⟩ : ∃ W1, W.alloc o0 = W1 := ⟨_, rfl⟩
 obtain ⟨W2, h2⟩ : ∃ W2, W1.alloc o1 = W2 := ⟨_, rfl⟩
 obtain ⟨W3, h3⟩ : ∃ W3, W2.alloc o2 = W3 := ⟨_, rfl⟩
 rw [h1, h2, h3] at h
 have s1 : W1.heap.size = W.heap.size + 1 := by rw [<- h1, World.size_alloc]
 have s2 : W2.heap.size = W.heap.size + 2 := by rw [<- h2, World.size_alloc, s1]
 have s3 : W3.heap.size = W.heap.size + 3 := by rw [<- h3, World.size_alloc, s2]
 have s4 : Wa.heap.size = W.heap.size + 4 := by rw [<- h, World.size_alloc, s3]
 have x1 : W1.heap[W.heap.size]? = some o0 := by rw [<- h1]; exact heap_alloc_new W _
 have x2 : W2.heap[W.heap.size + 1]? = some o1 := by rw [<- h2, <- s1]; exact heap_alloc_new W1 _
 have x3 : W3.heap[W.heap.size + 2]? = some o2 := by rw [<- h3, <- s2]; exact heap_alloc_new W2 _
 have x4 : Wa.heap[W.heap.size + 3]? = some o3 := by rw [<- h, <- s3]; exact heap_alloc_new W3 _
 have b1 : Below W.heap.size W W1 := by rw [<- h1]; exact (Below.refl _ _).alloc (Nat.le_refl _) _
 have b2 : Below W1.heap.size W1 W2 := by rw [<- h2]; exact (Below.refl _ _).alloc (Nat.le_refl _) _
 have b3 : Below W2.heap.size W2 W3 := by rw [<- h3]; exact (Below.refl _ _).alloc (Nat.le_refl _) _
 have b4 : Below W3.heap.size W3 Wa := by rw [<- h]; exact (Below.refl _ _).alloc (Nat.le_refl _) _
 refine ⟨s4, ?_, ?_, ?_, x4, ((b1.trans (b2.mono (by omega))).trans (b3.mono (by omega))).trans (b4.mono (by omega))⟩
 · exact (b4.block _ (by omega)).trans ((b3.block _ (by omega)).trans ((b2.block _ (by omega)).trans x1))
 · exact (b4.block _ (by omega)).trans ((b3.block _ (by omega)).trans x2)
 · exact (b4.block _ (by omega)).trans x3
def rdX (B : Nat) (v : Value) (k : Nat) : Prop := (B <= k /\ k < B + 9) \/ v.ownBlock = some k
structure RdI (Z : DK) (w0 w : World) (g gd gp gt n V r q c : Nat) (F C : Nat -> List UInt8) (E X : Nat -> Prop) (B st at_ N : Nat) (d : Nat) (v : Value) (W : World) : Prop where
 t : T3 Z w0 W g gd gp gt n V r q c F C (fun k => (E k \/ rdX B v k) \/ X k)
 k4 : W.heap[B]? = some (.cells #[.pointer (some ⟨gt, 0, none⟩)] 26)
 k8 : W.heap[B + 1]? = some (.cells #[.slice none 0 0] 34)
 k9 : W.heap[B + 2]? = some (.cells #[.int .i64 0] 48)
 k10 : W.heap[B + 3]? = some (.cells #[v] 34)
 pc : PcK (B + 4) st at_ N W
 own : OwnB W (B + 9) v (rd F st at_ d)
 only : Only (fun k => ¬ E k) w W
 eB : ∀ k, E k -> k < B
section
variable {Z : DK} {w0 w W W' : World} {g gd gp gt n V r q c : Nat} {F C : Nat -> List UInt8} {E X X' : Nat -> Prop} {B st at_ N d : Nat} {v : Value}
theorem RdI.ob (a : RdI Z w0 w g gd gp gt n V r q c F C E X B st at_ N d v W) : ∀ k, v.ownBlock = some k -> B + 9 <= k /\ k < W.heap.size := World.ownsRow.lt a.own
theorem RdI.step {S : Nat -> Prop} (a : RdI Z w0 w g gd gp gt n V r q c F C E X B st at_ N d v W) (t : T3 Z w0 W' g gd gp gt n V r q c F C (fun k => (E k \/ rdX B v k) \/ X' k)) (ho : Only S W W') (h1 : ∀ k, B <= k -> k < B + 7 -> ¬ S k) (h2 : ∀ k, v.ownBlock = some k -> ¬ S k) (h3 : ∀ k, E k -> ¬ S k) :
 RdI Z w0 w g gd gp gt n V r q c F C E X' B st at_ N d v W' := by
 have hl : ∀ {i : Nat} {o : Obj}, i < 4 -> W.heap[B + i]? = some o -> W'.heap[B + i]? = some o := fun hi h => (ho.block _ (Array.getElem?_eq_some_iff.1 h).1 (h1 _ (by omega) (by omega))).trans h
 exact ⟨t, hl (i := 0) (by omega) a.k4, hl (i := 1) (by omega) a.k8, hl (i := 2) (by omega) a.k9, hl (i := 3) (by omega) a.k10, a.pc.only ho (fun k h4 h5 => h1 k (by omega) (by omega)), a.own.only ho h2, a.only.trans (ho.mono (fun k _ hk he => h3 k he hk)), a.eB⟩
theorem RdI.two (a : RdI Z w0 w g gd gp gt n V r q c F C E X B st at_ N d v W) (ho : Only (two (B + 7)) W W') : RdI Z w0 w g gd gp gt n V r q c F C E X B st at_ N d v W' :=
 a.step (a.t.add (ho.mono (fun k _ hk => .inl (.inl (.inr (.inl (by rcases hk with rfl | rfl <;> omega)))))) (fun k hk => .inl hk)) ho (fun k _ h2 h => by rcases h with rfl | rfl <;> omega) (fun k hk h => by have := (a.ob k hk).1; rcases h with rfl | rfl <;> omega) (fun k hk h => by have := a.eB k hk; rcases h with rfl | rfl <;> omega)
theorem RdI.laid (a : RdI Z w0 w g gd gp gt n V r q c F C E X B st at_ N d v W) (ho : Only (fun k => W.heap.size <= k) W W') (hX : ∀ k, X' k -> X k \/ (W.heap.size <= k /\ k < W'.heap.size)) : RdI Z w0 w g gd gp gt n V r q c F C E X' B st at_ N d v W' := by
 have hB := (Array.getElem?_eq_some_iff.1 a.k10).1
 have h9 : ∀ k, B <= k -> k < B + 7 -> ¬ W.heap.size <= k := fun k h1 h2 => by
  have := (a.t.lt k (.inl (.inr (.inl ⟨h1, by omega⟩)))).2
  omega
 exact a.step (a.t.add (ho.mono (fun k _ hk => .inr hk)) (fun k hk => hk.elim (fun h => .inl (.inl h)) (fun h => (hX k h).imp .inr id))) ho h9 (fun k hk => by have := (a.ob k hk).2; omega) (fun k hk => by have := (a.t.lt k (.inl (.inl hk))).2; omega)
theorem RdI.drew (a : RdI Z w0 w g gd gp gt n V r q c F C E X B st at_ N d v W) : RdI Z w0 w g gd gp gt n V r q c F C E X B st at_ N d v W.drew := a.laid (Only.refl _ W).drew (fun k hk => .inl hk)
theorem load_i9 {Y : World} {b i : Nat} {x : Int} (h : Y.cell? ⟨b, i, none⟩ = some (.int .i64 x)) : (loadVar 3 ⟨b, i, none⟩).run Tryz.prog Y = .ok (.int .i64 x) Y := by
 simp [loadVar, isAgg, run_underlying Tryz.underlying3, go_sem, h]
theorem RdI.grow (a : RdI Z w0 w g gd gp gt n V r q c F C E X B st at_ N d v W) {M : List UInt8} {A7 : Option Addr} {n7 c7 d' : Nat} (o7 : OwnV 5 W' (B + 9) (.slice A7 n7 c7) (cellsB (rd F st at_ d) ++ cellsB M)) (g7 : W.grownBy W' v.ownBlock)
 (h7 : (Value.slice A7 n7 c7).ownBlock = v.ownBlock \/ (Value.slice A7 n7 c7).ownBlock = some W.heap.size) (hd : rd F st at_ d' = rd F st at_ d ++ M) :
 RdI Z w0 w g gd gp gt n V r q c F C E (fun _ => False) B st at_ N d' (.slice A7 n7 c7) (W'.setCell ⟨B + 3, 0, none⟩ (.slice A7 n7 c7)) /\ (W'.setCell ⟨B + 3, 0, none⟩ (.slice A7 n7 c7)).heap[B + 7]? = W.heap[B + 7]? /\ (W'.setCell ⟨B + 3, 0, none⟩ (.slice A7 n7 c7)).heap[B + 8]? = W.heap[B + 8]? := by
 have y1 := Only.grownO g7
 have hob := a.ob
 have h9 : ∀ k, B <= k -> k < B + 9 -> k < W.heap.size := fun k h1 h2 => (a.t.lt k (.inl (.inr (.inl ⟨h1, h2⟩)))).2
 have k10b := (y1.block (B + 3) (h9 _ (by omega) (by omega)) (fun h => by have := (hob _ h).1; omega)).trans a.k10
 have y : Only (fun k => v.ownBlock = some k \/ k = B + 3) W (W'.setCell ⟨B + 3, 0, none⟩ (.slice A7 n7 c7)) := (y1.mono (fun _ _ h => .inl h)).setCell (p := ⟨B + 3, 0, none⟩) (.inr rfl) _
 have hl : ∀ {i : Nat} {o : Obj}, i < 3 -> W.heap[B + i]? = some o -> (W'.setCell ⟨B + 3, 0, none⟩ (.slice A7 n7 c7)).heap[B + i]? = some o := fun hi h => (y.block _ (h9 _ (by omega) (by omega)) (fun h => h.elim (fun h => by have := (hob _ h).1; omega) (fun h => by omega))).trans h
 have hsz := y.size
 have hown : OwnB W' (B + 9) (.slice A7 n7 c7) (rd F st at_ d') := by
  have : OwnV 5 W' (B + 9) (.slice A7 n7 c7) (cellsB (rd F st at_ d')) := by rw [hd, cellsB_append]; exact o7
  unfold OwnV at this
  rw [cellsB_length] at this
  exact this
 have hlt7 := hown.lt
 have hs2 : (W'.setCell ⟨B + 3, 0, none⟩ (.slice A7 n7 c7)).heap.size = W'.heap.size := by simp
 refine ⟨⟨a.t.add (y.mono (fun k _ hk => hk.elim (fun h => .inl (.inl (.inr (.inr h)))) (fun h => .inl (.inl (.inr (.inl (by omega))))))) (fun k hk => ?_), hl (i := 0) (by omega) a.k4, hl (i := 1) (by omega) a.k8, hl (i := 2) (by omega) a.k9, ?_, a.pc.only y (fun k h4 h5 h => h.elim (fun h => by have := (hob _ h).1; omega) (fun h => by omega)), ?_, a.only.trans (y.mono (fun k _ hk he => by have := a.eB k he; exact hk.elim (fun h => by have := (hob _ h).1; omega) (fun h => by omega))), a.eB⟩, ?_, ?_⟩
 · rcases hk with (hk | hk | hk) | hk
   · exact .inl (.inl (.inl hk))
   · exact .inl (.inl (.inr (.inl hk)))
   · rcases h7 with h | h
     · exact .inl (.inl (.inr (.inr (h ▸ hk))))
     · have := (hlt7 k hk).2
       rw [h] at hk
       injection hk with hk
       exact .inr ⟨by omega, by omega⟩
   · exact hk.elim
 · have := heap_setCell_same W' (B + 3) 0 _ _ (.slice A7 n7 c7) k10b
   rw [this]
   rfl
 · exact hown.only ((Only.refl (fun k => k = B + 3) W').setCell (p := ⟨B + 3, 0, none⟩) rfl _) (fun k hk h => by have := (hlt7 k hk).1; omega)
 · exact y.block _ (h9 _ (by omega) (by omega)) (fun h => h.elim (fun h => by have := (hob _ h).1; omega) (fun h => by omega))
 · exact y.block _ (h9 _ (by omega) (by omega)) (fun h => h.elim (fun h => by have := (hob _ h).1; omega) (fun h => by omega))
def rdAct (gt st at_ N B gp : Nat) (x : Value) : Act := { tmps := #[.pointer (some ⟨gt, 0, none⟩), .int .i64 (st : Int), .int .i64 (at_ : Int), .int .i64 (N : Int), .pointer (some ⟨B, 0, none⟩), undef, undef, undef, .pointer (some ⟨B + 1, 0, none⟩), .pointer (some ⟨B + 2, 0, none⟩), .pointer (some ⟨B + 3, 0, none⟩), .pointer (some ⟨gp, 0, none⟩), undef, undef, .int .i64 (st : Int), .int .i64 (at_ : Int), .int .i64 (N : Int), .func (.func 130) #[] #[.pointer (some ⟨B + 6, 0, none⟩), .pointer (some ⟨B + 5, 0, none⟩), .pointer (some ⟨B + 4, 0, none⟩)], x, undef, undef, undef, undef, undef, undef, undef, undef, undef, undef, undef, undef, undef, undef, undef, undef, undef, undef, undef], defers := [] }
theorem pread_any (a : T3 Z w0 W g gd gp gt n V r q c F C E) (hV : V <= 1073000000) (st at_ N : Nat) (h1 : st <= 4294967296) (h2 : at_ <= 4294967296) (h3 : N <= 4294967296) (hin : ∀ d, d < N -> st + (at_ + d) / 512 < n - 2 - r) :
 Calls Tryz.prog 64 #[.pointer (some ⟨gt, 0, none⟩), .int .i64 (st : Int), .int .i64 (at_ : Int), .int .i64 (N : Int)] W fun e W' => ∃ A m c', e = .returned (.tuple #[.slice A m c', .int .i64 0]) /\ OwnB W' W.heap.size (.slice A m c') (rd F st at_ N) /\ T3 Z w0 W' g gd gp gt n V r q c F C (fun k => E k \/ InB A k) /\ Only (fun k => ¬ E k) W W' := by
 have A0 := lH a
 have HIN := lH hin
 clear a hin
 refine (callsIn_wide (n := 3)).1 ?_
 refine callsIn_of_wp_marks Tryz.func64 rfl trivial ?_ rfl
 simp only [Tryz.ntmps64, List.size_toArray, List.length_cons, List.length_nil, Nat.reduceAdd, Nat.reduceSub, Array.replicate_succ, Array.replicate_zero, List.push_toArray, List.append_toArray, List.nil_append, List.cons_append]
 gi_wp2_with (first
  | (refine ⟨trivial, ?_⟩; gi_at_call 97; refine (callsIn_wide.2 (pieces_any st at_ N _)).mono ?_; rintro e w1 ⟨rfl, pk, b1, s1⟩))
 generalize hWa : World.alloc _ _ = Wa at pk b1 s1
 obtain ⟨sa, y0, y1, y2, y3, ba⟩ := alloc4 hWa
 clear hWa
 obtain ⟨B, hB⟩ : ∃ B, W.heap.size = B := ⟨_, rfl⟩
 rw [hB] at sa y0 y1 y2 y3
 rw [sa] at pk s1
 have z0 := (b1.block _ (by omega)).trans y0
 have z1 := (b1.block _ (by omega)).trans y1
 have z2 := (b1.block _ (by omega)).trans y2
 have z3 := (b1.block _ (by omega)).trans y3
 have yo : Only (fun k => W.heap.size <= k) W w1 := (Only.of_below ba (Nat.le_refl _)).trans ((Only.of_below b1 (Nat.le_refl _)).mono (fun k hk hk2 => hk2))
 simp only [sa, hB, Nat.add_assoc, Nat.reduceAdd]
 have hs1 : w1.heap.size = B + 7 := by omega
 have I0 : Hid (∀ W1, Only (fun _ => False) w1 W1 -> W1.heap.size = w1.heap.size + 2 -> RdI Z w0 W g gd gp gt n V r q c F C E (fun _ => False) B st at_ N 0 (.slice none 0 0) W1) := lH (fun W1 ho hsz => by
  have yo1 : Only (fun k => W.heap.size <= k) W W1 := yo.trans (ho.mono (fun _ _ h => h.elim))
  have bl : ∀ {i : Nat} {o : Obj}, w1.heap[i]? = some o -> W1.heap[i]? = some o := fun h => (ho.block _ (Array.getElem?_eq_some_iff.1 h).1 (fun h => h)).trans h
  refine ⟨A0.out.add (yo1.mono (fun k _ hk => .inr hk)) (fun k hk => ?_), bl z0, bl z1, bl z2, bl z3, pk.only ho (fun _ _ _ h => h), OwnB.nil _ _, yo1.mono (fun k _ hk he => by have := (A0.out.lt k he).2; omega), fun k hk => by have := (A0.out.lt k hk).2; omega⟩
  rcases hk with (hk | hk | hk) | hk
  · exact .inl hk
  · exact .inr ⟨by omega, by omega⟩
  · cases hk
  · exact hk.elim)
 clear pk b1 s1 y0 y1 y2 y3 z0 z1 z2 z3 yo ba sa
 refine wpIn_rangeX (α := Nat) rfl (by omega) (gf := 130) (lb := #[.pointer (some ⟨B + 4 + 2, 0, none⟩), .pointer (some ⟨B + 4 + 1, 0, none⟩), .pointer (some ⟨B + 4, 0, none⟩)]) rfl trivial (enters_of Tryz.func130 (by kernel_rfl) rfl)
  (pieces1_seq Fence.wide 2 trivial rfl (by omega) (B + 4) st at_ N h1 h2 h3) (fun _ => rfl)
  (fun d W' => ∃ v, RdI Z w0 W g gd gp gt n V r q c F C E (fun _ => False) B st at_ N d v W') (fun _ _ _ => False)
  (fun s X Y h ho => by obtain ⟨v, h⟩ := h; rw [hs1] at ho; exact ⟨v, h.two ho⟩) (fun _ _ _ _ h _ => h.elim) (fun s X h => by obtain ⟨v, h⟩ := h; exact h.pc)
  (fun W1 ho hs => ⟨_, I0.out W1 ho hs⟩)
  (fun d a' W' => ∃ gp' v, a' = rdAct gt st at_ N B gp' (pcA st at_ N d)[0]! /\ RdI Z w0 W g gd gp gt n V r q c F C E (fun k => k = gp') B st at_ N d v W' /\ B + 9 <= gp' /\ v.ownBlock ≠ some gp' /\ W'.heap[gp']? = some (.cells #[.int .i64 ((st + (at_ + d) / 512 : Nat) : Int), .int .i64 (((at_ + d) % 512 : Nat) : Int), .int .i64 ((pcT at_ N d : Nat) : Int)] 171))
  (fun d a' X Y h ho => by
    obtain ⟨gp', v, e, h, h9, hv, hb⟩ := h
    rw [hs1] at ho
    exact ⟨gp', v, e, h.two ho, h9, hv, (ho.block _ (Array.getElem?_eq_some_iff.1 hb).1 (fun h => by rcases h with rfl | rfl <;> omega)).trans hb⟩)
  ?assign ?body ?done ?stop
 case assign =>
  rintro l d X K hG ⟨v, hv⟩ hK
  have HV := lH hv
  have hX9 : B + 9 <= X.heap.size := by have := (hv.t.lt (B + 8) (.inl (.inr (.inl ⟨by omega, by omega⟩)))).2; omega
  have e0 : (pcA st at_ N d)[0]! = .agg #[.int .i64 ((st + (at_ + d) / 512 : Nat) : Int), .int .i64 (((at_ + d) % 512 : Nat) : Int), .int .i64 ((pcT at_ N d : Nat) : Int)] := rfl
  obtain ⟨sec, hsec⟩ : ∃ sec, st + (at_ + d) / 512 = sec := ⟨_, rfl⟩
  obtain ⟨fr, hfr⟩ : ∃ fr, (at_ + d) % 512 = fr := ⟨_, rfl⟩
  obtain ⟨tt, htt⟩ : ∃ tt, pcT at_ N d = tt := ⟨_, rfl⟩
  have hA : pcA st at_ N d = #[.agg #[.int .i64 (sec : Int), .int .i64 (fr : Int), .int .i64 (tt : Int)]] := by unfold pcA; rw [hfr, htt, hsec]
  rw [hsec, hfr, htt] at hK e0
  rw [e0] at hK
  rw [hA]
  have HK := lH hK
  clear hK hv e0 hsec hfr htt hA
  gi_wp2
  have ho : Only (fun _ => False) X (X.alloc (.cells #[.int .i64 (sec : Int), .int .i64 (fr : Int), .int .i64 (tt : Int)] 171)) := (Only.refl _ X).alloc _
  have ho2 := ho.mono (T := fun k => X.heap.size <= k) (fun _ _ h => h.elim)
  exact HK.out _ _ ho ⟨v, HV.out.laid ho2 (fun k hk => .inl hk)⟩ ⟨X.heap.size, v, rfl, HV.out.laid ho2 (fun k hk => .inr (by subst hk; exact ⟨Nat.le_refl _, by simp⟩)), hX9, fun h => by have := (HV.out.ob _ h).2; omega, heap_alloc_new X _⟩
 case body =>
  rintro l d a' X hG hsz ⟨v0, hv0⟩ ⟨gq, v, rfl, hv, h9, hvb, hbx⟩
  have HV := lH hv
  have HNI := lH (HIN.out d hG)
  have F512 := lH (hv.t.sz.2.2 _ (HIN.out d hG))
  have e0 : (pcA st at_ N d)[0]! = .agg #[.int .i64 ((st + (at_ + d) / 512 : Nat) : Int), .int .i64 (((at_ + d) % 512 : Nat) : Int), .int .i64 ((pcT at_ N d : Nat) : Int)] := rfl
  have hNx : pcN at_ N d = d + (pcT at_ N d - (at_ + d) % 512) := rfl
  have hT : pcT at_ N d = min ((at_ + d) % 512 + (N - d)) 512 := rfl
  obtain ⟨sec, hsec⟩ : ∃ sec, st + (at_ + d) / 512 = sec := ⟨_, rfl⟩
  obtain ⟨fr, hfr⟩ : ∃ fr, (at_ + d) % 512 = fr := ⟨_, rfl⟩
  obtain ⟨tt, htt⟩ : ∃ tt, pcT at_ N d = tt := ⟨_, rfl⟩
  rw [hsec, hfr, htt] at hbx e0
  rw [hfr, htt] at hNx hT
  rw [hsec] at HNI F512
  rw [e0]
  have f1 : fr < 512 := by omega
  have f2 : fr < tt := by omega
  have f3 : tt <= 512 := by omega
  have NX := lH hNx
  have SC := lH hsec
  have FR := lH hfr
  have CR := lH (hv.t.read hV sec HNI.out)
  have k0 : X.cell? ⟨B, 0, none⟩ = some (.pointer (some ⟨gt, 0, none⟩)) := by rw [cell_of_row _ _ _ _ _ _ hv.k4]; rfl
  have k1 : X.cell? ⟨gq, 0, none⟩ = some (.int .i64 (sec : Int)) := by rw [cell_of_row _ _ _ _ _ _ hbx]; rfl
  have HBX := lH hbx
  have HVB := lH hvb
  clear hv hv0 e0 hNx hT hsec hfr htt hbx hvb
  unfold rdAct
  gi_wp2_with (first
   | (refine ⟨trivial, ?_⟩; gi_at_call 91; refine (CallsIn.inRound l (callsIn_wide.2 CR.out)).mono ?_; rintro e w3 ⟨A, m, c3, rfl, hx, t3, y3⟩
      have hm := hx.len
      rw [F512.out] at hm
      subst hm
      obtain ⟨gA, rfl, hA1, hA2, _⟩ := hx.head (by omega)
      have R3 := lH (HV.out.step (X' := fun k => k = gq \/ InB (some ⟨gA, 0, none⟩) k) (t3.less (fun k hk => by
       rcases hk with hk | hk | hk
       · exact .inl (.inl hk)
       · exact .inl (.inr hk)
       · exact .inr hk)) y3 (fun k b1 b2 h => h (.inl (.inr (.inl ⟨b1, by omega⟩)))) (fun k hk h => h (.inl (.inr (.inr hk)))) (fun k hk h => h (.inl (.inl hk))))
      have X3 := lH ((y3.block gq (Array.getElem?_eq_some_iff.1 HBX.out).1 (fun h => h (.inr rfl))).trans HBX.out)
      have H3 := lH hx.has
      have hc3 := hx.caps.1
      have D7 := lH (y3.block (B + 7) (by omega) (fun h => h (.inl (.inr (.inl ⟨by omega, by omega⟩)))))
      have D8 := lH (y3.block (B + 8) (by omega) (fun h => h (.inl (.inr (.inl ⟨by omega, by omega⟩)))))
      have hcf : ¬ c3 = fr := by omega
      clear hx t3 y3))
  obtain ⟨M, hM⟩ : ∃ M, ((F sec).drop fr).take (tt - fr) = M := ⟨_, rfl⟩
  have hml : M.length = tt - fr := by rw [<- hM, List.length_take, List.length_drop, F512.out]; omega
  have ML : Hid (tt - fr = (cellsB M).length) := lH (by rw [cellsB_length, hml])
  have MN : Hid (∀ (j : Nat) (u : Value), (cellsB M)[j]? = some u -> w3.drew.cell? ((⟨gA, fr, none⟩ : Addr).add j) = some u) := lH (fun j u hj => by
   obtain ⟨x, hx, rfl⟩ : ∃ x : UInt8, M[j]? = some x /\ Value.int .u8 (x.toNat : Int) = u := by
    unfold cellsB at hj
    rw [List.getElem?_map] at hj
    cases hq : M[j]? with
    | none => rw [hq] at hj; cases hj
    | some x => rw [hq] at hj; exact ⟨x, rfl, by simpa using hj⟩
   rw [Addr.add_lit]
   have hjl := (List.getElem?_eq_some_iff.1 hx).1
   rw [<- hM, List.getElem?_take, if_pos (by omega), List.getElem?_drop] at hx
   obtain ⟨g', o', e', _, hc'⟩ := H3.out.2 (by omega)
   simp only [Option.some.injEq, Addr.mk.injEq, and_true] at e'
   obtain ⟨rfl, rfl⟩ := e'
   have := hc' _ _ hx
   rw [Nat.zero_add] at this
   exact this)
  have MO : Hid (∀ u ∈ cellsB M, u.oneCell' = true) := lH (fun u hu => by
   unfold cellsB at hu
   obtain ⟨x, _, rfl⟩ := List.mem_map.1 hu
   rfl)
  have OV : Hid (OwnV 5 w3.drew (B + 9) v (cellsB (rd F st at_ d))) := lH (by unfold OwnV; rw [cellsB_length]; exact R3.out.own)
  have LEN : Hid (((cellsB (rd F st at_ d)).length + (tt - fr)) * (1 + 1) <= 140737488355328) := lH (by rw [cellsB_length, rd_len]; omega)
  have BS : Hid (B + 9 <= w3.drew.heap.size) := lH (by have := (R3.out.t.lt (B + 8) (.inl (.inr (.inl ⟨by omega, by omega⟩)))).2; show B + 9 <= w3.heap.size; omega)
  have HM := lH hM
  have g1 : tt <= c3 := by omega
  have g2 : fr <= tt := by omega
  have k10 : w3.cell? ⟨B + 3, 0, none⟩ = some v := by rw [cell_of_row _ _ _ _ _ _ R3.out.k10]; rfl
  clear hM hml
  refine wpIn_region_held (S := fun Y => Y.heap[gq]? = some (.cells #[.int .i64 (sec : Int), .int .i64 (fr : Int), .int .i64 (tt : Int)] 171)) (by kernel_rfl) (by kernel_rfl) X3.out (fun hHeld => ?_)
  refine tk9 (i := 1) (h := ?_)
  try simp only [aP,aN,aS,aZ,aC]
  refine tk9 (i := 2) (h := ?_)
  try simp only [aP,aN,aS,aZ,aC]
  refine tk9 (i := 4) (h := ?_)
  try simp only [aP,aN,aS,aZ,aC]
  refine tk9 (i := 3) (hy := (yieldsIf_loadG (by rfl) 3 (.tmp 31) rfl ⟨gq, 1, none⟩ rfl (.int .i64 (fr : Int)) (fun Y hY => load_i9 (by rw [cell_of_row _ _ _ _ _ _ hY]; rfl)))) (h := ?_)
  try simp only [aP,aN,aS,aZ,aC]
  refine tk9 (i := 5) (hy := (yieldsIf_loadG (by rfl) 3 (.tmp 33) rfl ⟨gq, 2, none⟩ rfl (.int .i64 (tt : Int)) (fun Y hY => load_i9 (by rw [cell_of_row _ _ _ _ _ _ hY]; rfl)))) (h := ?_)
  try simp only [aP,aN,aS,aZ,aC]
  refine tk9 (i := 6) (h := ?_)
  try simp only [aP,aN,aS,aZ,aC]
  refine rd9 (i := 0) (h := fun K hK => ?_)
  go_simp
  have hS0 : w3.drew.heap[gq]? = some (.cells #[.int .i64 (sec : Int), .int .i64 (fr : Int), .int .i64 (tt : Int)] 171) := hHeld
  refine hK _ _ hS0 (fun hH0 => ?_)
  clear hK K
  try simp only [aP,aN,aS,aZ,aC]
  refine rd9 (i := 7) (h := fun K hK => ?_)
  refine step_appV (by rfl) (.tmp 29) (.tmp 35) 34 5 (.int .u8 0) 1 rfl Tryz.underlying34 infoU8 rfl (B + 9) v (cellsB (rd F st at_ d)) (cellsB M) rfl OV.out ⟨gA, fr, none⟩ (tt - fr) (c3 - fr) rfl ML.out MN.out MO.out LEN.out BS.out ?_
  intro A7 n7 c7 w7 o7 g7 b7 h7
  have hS7 := ((Only.grownO g7).block gq (Array.getElem?_eq_some_iff.1 hHeld).1 HVB.out).trans hHeld
  have k10b := ((Only.grownO g7).block (B + 3) (Array.getElem?_eq_some_iff.1 R3.out.k10).1 (fun h => by have := (R3.out.ob _ h).1; omega)).trans R3.out.k10
  have k10c : w7.cell? ⟨B + 3, 0, none⟩ = some v := by rw [cell_of_row _ _ _ _ _ _ k10b]; rfl
  have k10f : w7.frozen? ⟨B + 3, 0, none⟩ = false := frozen_of_row w7 (B + 3) 0 _ _ k10b
  refine hK _ _ hS7 (fun hH7 => ?_)
  clear hK K
  try simp only [aP,aN,aS,aZ,aC]
  refine rd9 (i := 8) (h := fun K hK => ?_)
  go_simp
  have hS8 : (w7.setCell ⟨B + 3, 0, none⟩ (.slice A7 n7 c7)).heap[gq]? = some (.cells #[.int .i64 (sec : Int), .int .i64 (fr : Int), .int .i64 (tt : Int)] 171) := (heap_setCell_other w7 _ gq _ (by show gq ≠ B + 3; omega)).trans hS7
  refine hK _ _ hS8 (fun hH8 => ?_)
  clear hK K
  try simp only [aP,aN,aS,aZ,aC]
  refine wpAnyH_done (by kernel_rfl) ?_ _
  obtain ⟨r8, e7, e8⟩ := R3.out.drew.grow o7 g7 h7 (d' := pcN at_ N d) (by rw [NX.out, <- HM.out]; exact rd_step SC.out FR.out (by omega) F512.out)
  have R8 := lH r8
  have E7 := lH e7
  have E8 := lH e8
  clear r8 e7 e8
  refine (show _ /\ _ from ⟨⟨?_, ?_⟩, _, R8.out⟩)
  · rw [hs1]; exact E7.out.trans D7.out
  · rw [hs1]; exact E8.out.trans D8.out
 case done =>
  rintro d X hd ⟨v, hv⟩ hD
  subst hd
  have hv8 := (Array.getElem?_eq_some_iff.1 hv.k8).1
  have k10 : X.cell? ⟨B + 3, 0, none⟩ = some v := by rw [cell_of_row _ _ _ _ _ _ hv.k10]; rfl
  have k8 : X.cell? ⟨B + 1, 0, none⟩ = some (.slice none 0 0) := by rw [cell_of_row _ _ _ _ _ _ hv.k8]; rfl
  have f8 : X.frozen? ⟨B + 1, 0, none⟩ = false := frozen_of_row X (B + 1) 0 _ _ hv.k8
  have k9 : X.cell? ⟨B + 2, 0, none⟩ = some (.int .i64 0) := by rw [cell_of_row _ _ _ _ _ _ hv.k9]; rfl
  have f9 : X.frozen? ⟨B + 2, 0, none⟩ = false := frozen_of_row X (B + 2) 0 _ _ hv.k9
  obtain ⟨A, m, c', rfl, _⟩ := hv.own.slice
  have HV := lH hv
  clear hv
  gi_wp2
  generalize hY : World.setCell _ _ _ = Y
  have y : Only (fun k => k = B + 1 \/ k = B + 2) X Y := by rw [<- hY]; exact ((Only.refl _ X).setCell (p := ⟨B + 1, 0, none⟩) (.inl rfl) _).setCell (p := ⟨B + 2, 0, none⟩) (.inr rfl) _
  have hD2 : Y.heap[B + 7]? = some (.deferred (some [])) := (y.block _ (by rw [hs1] at hD; exact (Array.getElem?_eq_some_iff.1 hD).1) (fun h => by omega)).trans (by rw [<- hs1]; exact hD)
  refine ⟨by simp, .inl ⟨_, _, rfl, run_takeDeferred hD2, ?_⟩⟩
  have z8 : Y.heap[B + 1]? = some (.cells #[.slice A m c'] 34) := by
   rw [<- hY, heap_setCell_other _ _ _ _ (by simp), heap_setCell_same X (B + 1) 0 _ _ _ HV.out.k8]; rfl
  have k9' : (X.setCell ⟨B + 1, 0, none⟩ (.slice A m c')).heap[B + 2]? = some (.cells #[.int .i64 0] 48) := (heap_setCell_other X ⟨B + 1, 0, none⟩ (B + 2) _ (by simp)).trans HV.out.k9
  have z9 : Y.heap[B + 2]? = some (.cells #[.int .i64 0] 48) := by
   rw [<- hY, heap_setCell_same _ (B + 2) 0 _ _ _ k9']; rfl
  have y3 : Only (fun k => k = B + 1 \/ k = B + 2 \/ k = B + 7) X (Y.putObj (B + 7) (.deferred none)) := (y.mono (fun k _ h => h.imp id .inl)).trans ((only_putObj Y (B + 7) (.deferred none)).mono (fun k _ h => .inr (.inr h)))
  have w8 : (Y.putObj (B + 7) (.deferred none)).cell? ⟨B + 1, 0, none⟩ = some (.slice A m c') := by rw [cell_of_row _ _ _ _ _ _ ((World.putObj_heap_other (by omega)).trans z8)]; rfl
  have w9 : (Y.putObj (B + 7) (.deferred none)).cell? ⟨B + 2, 0, none⟩ = some (.int .i64 0) := by rw [cell_of_row _ _ _ _ _ _ ((World.putObj_heap_other (by omega)).trans z9)]; rfl
  have ob := HV.out.ob
  clear z8 z9 k9' hY hD hD2
  refine ⟨.tuple #[.slice A m c', .int .i64 0], ?_, A, m, c', rfl, ?_, ?_, HV.out.only.trans (y3.mono (fun k _ hk he => by have := HV.out.eB k he; omega))⟩
  · simp [results, Tryz.results64, go_sem, w8, w9]
  · exact (OwnB.less HV.out.own (by omega)).only y3 (fun k hk h => by have := (ob k hk).1; omega)
  · refine HV.out.t.add (y3.mono (fun k _ hk => .inl (.inl (.inr (.inl (by omega)))))) (fun k hk => ?_)
    rcases hk with hk | ⟨a, ha, rfl⟩
    · exact .inl (.inl (.inl hk))
    · exact .inl (.inl (.inr (.inr (by rw [ha]; rfl))))
 case stop =>
  rintro c' d X _ h _
  exact h.elim
end
end Go.Proofs.YthoebjekkfhhgaaGreat
namespace Go.Proofs.YthoebjekkfhhgaaGreat
open Go.RowKit Go.Maps Go.Shelf
attribute [local go_sem] Oper.semAt_some
def wrF (F : Nat -> List UInt8) (st at_ : Nat) (b : List UInt8) (d i : Nat) : List UInt8 :=
 if st <= i then (List.range 512).map fun j => if at_ <= (i - st) * 512 + j /\ (i - st) * 512 + j < at_ + d then b.getD ((i - st) * 512 + j - at_) 0 else (F i).getD j 0 else F i
theorem wrF_len {F : Nat -> List UInt8} {st at_ : Nat} {b : List UInt8} {d i : Nat} (h : (F i).length = 512) : (wrF F st at_ b d i).length = 512 := by
 unfold wrF
 split
 · simp
 · exact h
theorem wrF_at {F : Nat -> List UInt8} {st at_ : Nat} {b : List UInt8} {d i j : Nat} (h : (F i).length = 512) (hj : j < 512) : (wrF F st at_ b d i)[j]? = some (if st <= i /\ at_ <= (i - st) * 512 + j /\ (i - st) * 512 + j < at_ + d then b.getD ((i - st) * 512 + j - at_) 0 else (F i).getD j 0) := by
 unfold wrF
 by_cases hs : st <= i
 · rw [if_pos hs, List.getElem?_map, List.getElem?_range hj]
   simp [hs]
 · rw [if_neg hs, if_neg (fun h => hs h.1), List.getD, List.getElem?_eq_getElem (by omega)]; rfl
theorem wrF_zero {F : Nat -> List UInt8} {st at_ : Nat} {b : List UInt8} {i : Nat} (h : (F i).length = 512) : wrF F st at_ b 0 i = F i := by
 apply List.ext_getElem?
 intro j
 by_cases hj : j < 512
 · rw [wrF_at h hj, if_neg (by omega), List.getD, List.getElem?_eq_getElem (by omega)]; rfl
 · rw [List.getElem?_eq_none (by rw [wrF_len h]; omega), List.getElem?_eq_none (by omega)]
theorem wrF_far {F : Nat -> List UInt8} {st at_ : Nat} {b : List UInt8} {d i : Nat} (h : (F i).length = 512) (hi : i < st + at_ / 512 \/ st + (at_ + d + 511) / 512 <= i) : wrF F st at_ b d i = F i := by
 apply List.ext_getElem?
 intro j
 by_cases hj : j < 512
 · rw [wrF_at h hj, if_neg (by omega), List.getD, List.getElem?_eq_getElem (by omega)]; rfl
 · rw [List.getElem?_eq_none (by rw [wrF_len h]; omega), List.getElem?_eq_none (by omega)]
theorem wrF_step {F : Nat -> List UInt8} {st at_ d fr k sec : Nat} {b : List UInt8} (hs : st + (at_ + d) / 512 = sec) (hf : (at_ + d) % 512 = fr) (hk : fr + k <= 512) (hb : d + k <= b.length) (i : Nat) (hl : (F i).length = 512) :
 wrF F st at_ b (d + k) i = upd (wrF F st at_ b d) sec (over (wrF F st at_ b d sec) fr ((b.drop d).take k)) i := by
 unfold upd
 have hkl : ((b.drop d).take k).length = k := by rw [List.length_take, List.length_drop]; omega
 by_cases h : i = sec
 · subst h
   rw [if_pos rfl]
   apply List.ext_getElem?
   intro j
   have hsec : i - st = (at_ + d) / 512 := by omega
   by_cases hj : j < 512
   · rw [wrF_at hl hj, over_at (by rw [wrF_len hl, hkl]; exact hk), hkl]
     by_cases h1 : fr <= j /\ j < fr + k
     · rw [if_pos h1, if_pos (by omega), List.getElem?_take, if_pos (by omega), List.getElem?_drop, List.getD, hsec]
       have e : (at_ + d) / 512 * 512 + j - at_ = d + (j - fr) := by omega
       rw [e, List.getElem?_eq_getElem (by omega)]; rfl
     · rw [if_neg h1, wrF_at hl hj]
       congr 1
       by_cases h2 : st <= i /\ at_ <= (i - st) * 512 + j /\ (i - st) * 512 + j < at_ + d
       · rw [if_pos h2, if_pos (by omega)]
       · rw [if_neg h2, if_neg (by omega)]
   · rw [List.getElem?_eq_none (by rw [wrF_len hl]; omega), List.getElem?_eq_none (by rw [over_len (by rw [wrF_len hl, hkl]; exact hk), wrF_len hl]; omega)]
 · rw [if_neg h]
   apply List.ext_getElem?
   intro j
   by_cases hj : j < 512
   · rw [wrF_at hl hj, wrF_at hl hj]
     congr 1
     by_cases h2 : st <= i /\ at_ <= (i - st) * 512 + j /\ (i - st) * 512 + j < at_ + d
     · rw [if_pos h2, if_pos (by omega)]
     · rw [if_neg h2, if_neg (by omega)]
   · rw [List.getElem?_eq_none (by rw [wrF_len hl]; omega), List.getElem?_eq_none (by rw [wrF_len hl]; omega)]
def cw (c at_ N d : Nat) : Nat := if d < N then c + ((at_ + d) / 512 - at_ / 512) else c + ((at_ + N + 511) / 512 - at_ / 512)
theorem over_own {w : World} {base g c k fr : Nat} {l M : List UInt8} (hx : OwnX w base (.slice (some ⟨g, 0, none⟩) 512 c) l) (hk : M.length = k) (hf : fr + k <= 512) :
 ∃ (cur : Array Value) (t : TypeId), w.heap[g]? = some (.cells cur t (0, 0)) /\ cur.size = c /\ fr + (cellsB M).length <= cur.size /\
   HasB (w.setRow g (cur.toList.take fr ++ (cellsB M ++ cur.toList.drop (fr + (cellsB M).length))).toArray) (w.setRow g (cur.toList.take fr ++ (cellsB M ++ cur.toList.drop (fr + (cellsB M).length))).toArray).heap.size (some ⟨g, 0, none⟩) 512 (over l fr M) := by
 have hl := hx.len
 have hc := hx.caps.1
 rcases hx.form with ⟨e, _⟩ | ⟨t, g', c', cur, e, _, hlt, hg, h1, h2, h3, h4⟩
 · cases e
 · simp only [Value.slice.injEq, Option.some.injEq, Addr.mk.injEq, and_true] at e
   obtain ⟨rfl, e2, rfl⟩ := e
   rw [<- e2] at h4
   have hM : (cellsB M).length = k := by rw [cellsB_length, hk]
   have hol : (over l fr M).length = 512 := by rw [over_len (by omega)]; omega
   refine ⟨cur, t, hg, h3, by omega, hol.symm, fun _ => ⟨g, 0, rfl, by simp [World.setRow]; exact hlt, fun i b hb => ?_⟩⟩
   have hi : i < 512 := by have := (List.getElem?_eq_some_iff.1 hb).1; omega
   rw [Nat.zero_add, cell_of_row _ _ _ _ _ _ (setRow_heap w g _ _ t _ hg), List.getElem?_toArray]
   have hcl : cur.toList.length = c := by rw [Array.length_toList, h3]
   have hct : (cur.toList.take fr).length = fr := by rw [List.length_take]; omega
   rw [over_at (by omega), hk] at hb
   have old : ∀ j x, j < 512 -> l[j]? = some x -> cur.toList[j]? = some (Value.int .u8 (x.toNat : Int)) := fun j x hj hx => by
    have : (cur.toList.take 512)[j]? = some (Value.int .u8 (x.toNat : Int)) := by rw [h4]; unfold cellsB; rw [List.getElem?_map, hx]; rfl
    rwa [List.getElem?_take, if_pos hj] at this
   by_cases hj1 : i < fr
   · rw [List.getElem?_append_left (by omega), List.getElem?_take, if_pos hj1]
     rw [if_neg (by omega)] at hb
     exact old i b hi hb
   · rw [List.getElem?_append_right (by omega), hct]
     by_cases hj2 : i < fr + k
     · rw [if_pos ⟨by omega, hj2⟩] at hb
       rw [List.getElem?_append_left (by omega)]
       unfold cellsB
       rw [List.getElem?_map, hb]; rfl
     · rw [if_neg (by omega)] at hb
       rw [List.getElem?_append_right (by omega), hM, List.getElem?_drop, show fr + k + (i - fr - k) = i by omega]
       exact old i b hi hb
theorem step_copyP {P : Program} {ops : Array Oper} {o : Oper} {a : Act} {w : World} {K : Act -> World -> Prop} {Q : Exit -> Act -> World -> Prop} {E : Prop} (hw : Region.wanted o (yielded ops a.tmps) = true) (d s : Operand) (dT sT : TypeId)
 (ho : o.op = .call { callee := .builtin .copy, args := #[d, s], argTypes := #[dT, sT] }) (elem : TypeId) (hu : P.underlying dT = some (.slice elem)) (hsz : (P.info? elem).map (·.size) = some 1)
 (g off dLen dCap : Nat) (ad : Addr) (sLen sCap : Nat) (hd : a.eval d = .slice (some ⟨g, off, none⟩) dLen dCap) (hs : a.eval s = .slice (some ad) sLen sCap)
 (cur : Array Value) (t : TypeId) (hg : w.heap[g]? = some (.cells cur t (0, 0))) (cs : List Value) (hn : cs.length = Nat.min sLen dLen)
 (hsrc : ∀ j v, cs[j]? = some v -> w.cell? (ad.add j) = some v) (hfit : off + cs.length <= cur.size) (h1 : ∀ v ∈ cs, v.oneCell' = true)
 (h : K (a.put o.dst (goInt cs.length)) (w.setRow g (cur.toList.take off ++ (cs ++ cur.toList.drop (off + cs.length))).toArray)) :
 if Region.wanted o (yielded ops a.tmps) = true then Oper.wp P o a w K Q else E := by
 rw [if_pos hw]
 have hrun := run_copy_row (P := P) w dT sT o.type elem g off dLen dCap ad sLen sCap cur t cs hu hsz hg hn hsrc hfit h1
 unfold Oper.wp
 simp [execOp, ho, resolve, invoke, builtin, hd, hs, hrun, Result.andThen]
 exact h
theorem alloc3b {W Wa : World} {o0 o1 o2 : Obj} (h : ((W.alloc o0).alloc o1).alloc o2 = Wa) : Wa.heap.size = W.heap.size + 3 /\ Wa.heap[W.heap.size]? = some o0 /\ Wa.heap[W.heap.size + 1]? = some o1 /\ Wa.heap[W.heap.size + 2]? = some o2 /\ Below W.heap.size W Wa := by
 obtain ⟨W1, h1⟩ : ∃ W1, W.alloc o0 = W1 := ⟨_, rfl⟩
 obtain ⟨W2, h2⟩ : ∃ W2, W1.alloc o1 = W2 := ⟨_, rfl⟩
 rw [h1, h2] at h
 have s1 : W1.heap.size = W.heap.size + 1 := by rw [<- h1, World.size_alloc]
 have s2 : W2.heap.size = W.heap.size + 2 := by rw [<- h2, World.size_alloc, s1]
 have s3 : Wa.heap.size = W.heap.size + 3 := by rw [<- h, World.size_alloc, s2]
 have x1 : W1.heap[W.heap.size]? = some o0 := by rw [<- h1]; exact heap_alloc_new W _
 have x2 : W2.heap[W.heap.size + 1]? = some o1 := by rw [<- h2, <- s1]; exact heap_alloc_new W1 _
 have x3 : Wa.heap[W.heap.size + 2]? = some o2 := by rw [<- h, <- s2]; exact heap_alloc_new W2 _
 have b1 : Below W.heap.size W W1 := by rw [<- h1]; exact (Below.refl _ _).alloc (Nat.le_refl _) _
 have b2 : Below W1.heap.size W1 W2 := by rw [<- h2]; exact (Below.refl _ _).alloc (Nat.le_refl _) _
 have b3 : Below W2.heap.size W2 Wa := by rw [<- h]; exact (Below.refl _ _).alloc (Nat.le_refl _) _
 exact ⟨s3, (b3.block _ (by omega)).trans ((b2.block _ (by omega)).trans x1), (b3.block _ (by omega)).trans x2, x3, (b1.trans (b2.mono (by omega))).trans (b3.mono (by omega))⟩
def wrX (B : Nat) (k : Nat) : Prop := B <= k /\ k < B + 8
structure WrI (Z : DK) (w0 w : World) (g gd gp gt n V r q c : Nat) (F C : Nat -> List UInt8) (E X : Nat -> Prop) (B st at_ N : Nat) (b : List UInt8) (d : Nat) (v : Value) (W : World) : Prop where
 t : T3 Z w0 W g gd gp gt n V r (q + d) (cw c at_ N d) (wrF F st at_ b d) C (fun k => (E k \/ wrX B k) \/ X k)
 k4 : W.heap[B]? = some (.cells #[.pointer (some ⟨gt, 0, none⟩)] 26)
 k7 : W.heap[B + 1]? = some (.cells #[v] 34)
 k8 : W.heap[B + 2]? = some (.cells #[.int .i64 0] 48)
 pc : PcK (B + 3) st at_ N W
 src : ∃ A c', v = .slice A (N - d) c' /\ HasB W W.heap.size A (N - d) (b.drop d) /\ N - d <= c' /\ ∀ a, A = some a -> 0 < N - d -> E a.block
 only : Only (fun k => ¬ E k) w W
 eB : ∀ k, E k -> k < B
 al : d = 0 \/ (at_ + d) % 512 = 0 \/ d = N
section
variable {Z : DK} {w0 w W W' : World} {g gd gp gt n V r q c : Nat} {F C : Nat -> List UInt8} {E X X' : Nat -> Prop} {B st at_ N d : Nat} {v : Value} {b : List UInt8}
theorem HasB.keep8 {S : Nat -> Prop} {A : Option Addr} {m : Nat} {l : List UInt8} (h : HasB W W.heap.size A m l) (ho : Only S W W') (hS : ∀ a, A = some a -> 0 < m -> ¬ S a.block) : HasB W' W'.heap.size A m l := by
 refine ⟨h.1, fun hq => ?_⟩
 obtain ⟨g, o, e, hg, hc⟩ := h.2 hq
 exact ⟨g, o, e, Nat.lt_of_lt_of_le hg ho.size, fun i x hx => cell_only ho (hS _ e hq) (hc i x hx)⟩
theorem WrI.step {S : Nat -> Prop} (a : WrI Z w0 w g gd gp gt n V r q c F C E X B st at_ N b d v W) (t : T3 Z w0 W' g gd gp gt n V r (q + d) (cw c at_ N d) (wrF F st at_ b d) C (fun k => (E k \/ wrX B k) \/ X' k)) (ho : Only S W W') (h1 : ∀ k, B <= k -> k < B + 6 -> ¬ S k) (h3 : ∀ k, E k -> ¬ S k) :
 WrI Z w0 w g gd gp gt n V r q c F C E X' B st at_ N b d v W' := by
 have hl : ∀ {i : Nat} {o : Obj}, i < 3 -> W.heap[B + i]? = some o -> W'.heap[B + i]? = some o := fun hi h => (ho.block _ (Array.getElem?_eq_some_iff.1 h).1 (h1 _ (by omega) (by omega))).trans h
 obtain ⟨A, c', e, hb, hc, hE⟩ := a.src
 exact ⟨t, hl (i := 0) (by omega) a.k4, hl (i := 1) (by omega) a.k7, hl (i := 2) (by omega) a.k8, a.pc.only ho (fun k h4 h5 => h1 k (by omega) (by omega)), ⟨A, c', e, hb.keep8 ho (fun x hx h0 => h3 _ (hE x hx h0)), hc, hE⟩, a.only.trans (ho.mono (fun k _ hk he => h3 k he hk)), a.eB, a.al⟩
theorem WrI.two (a : WrI Z w0 w g gd gp gt n V r q c F C E X B st at_ N b d v W) (ho : Only (two (B + 6)) W W') : WrI Z w0 w g gd gp gt n V r q c F C E X B st at_ N b d v W' :=
 a.step (a.t.add (ho.mono (fun k _ hk => .inl (.inl (.inr (by rcases hk with rfl | rfl <;> exact ⟨by omega, by omega⟩))))) (fun k hk => .inl hk)) ho (fun k _ h2 h => by rcases h with rfl | rfl <;> omega) (fun k hk h => by have := a.eB k hk; rcases h with rfl | rfl <;> omega)
theorem WrI.laid (a : WrI Z w0 w g gd gp gt n V r q c F C E X B st at_ N b d v W) (ho : Only (fun k => W.heap.size <= k) W W') (hX : ∀ k, X' k -> X k \/ (W.heap.size <= k /\ k < W'.heap.size)) : WrI Z w0 w g gd gp gt n V r q c F C E X' B st at_ N b d v W' :=
 a.step (a.t.add (ho.mono (fun k _ hk => .inr hk)) (fun k hk => hk.elim (fun h => .inl (.inl h)) (fun h => (hX k h).imp .inr id))) ho (fun k h1 h2 => by have := (a.t.lt k (.inl (.inr ⟨h1, by omega⟩))).2; omega) (fun k hk => by have := (a.t.lt k (.inl (.inl hk))).2; omega)
theorem WrI.drew (a : WrI Z w0 w g gd gp gt n V r q c F C E X B st at_ N b d v W) : WrI Z w0 w g gd gp gt n V r q c F C E X B st at_ N b d v W.drew := a.laid (Only.refl _ W).drew (fun k hk => .inl hk)
theorem WrI.copied (a : WrI Z w0 w g gd gp gt n V r q c F C E X B st at_ N b d v W) {gA k : Nat} {v' : Value} {cs : Array Value} (hX : X gA) (hA : ¬ (E gA \/ wrX B gA)) (hk : d + k <= N) (hv' : ∃ A c', v' = .slice A (N - d - k) c' /\ HasB W W.heap.size A (N - d - k) (b.drop (d + k)) /\ N - d - k <= c' /\ ∀ x, A = some x -> 0 < N - d - k -> E x.block) :
 T3 Z w0 ((W.setRow gA cs).setCell ⟨B + 1, 0, none⟩ v') g gd gp gt n V r (q + d) (cw c at_ N d) (wrF F st at_ b d) C (fun k => (E k \/ wrX B k) \/ X k) /\
 ((W.setRow gA cs).setCell ⟨B + 1, 0, none⟩ v').heap[B]? = some (.cells #[.pointer (some ⟨gt, 0, none⟩)] 26) /\ ((W.setRow gA cs).setCell ⟨B + 1, 0, none⟩ v').heap[B + 1]? = some (.cells #[v'] 34) /\ ((W.setRow gA cs).setCell ⟨B + 1, 0, none⟩ v').heap[B + 2]? = some (.cells #[.int .i64 0] 48) /\
 PcK (B + 3) st at_ N ((W.setRow gA cs).setCell ⟨B + 1, 0, none⟩ v') /\ Only (fun k => k = gA \/ k = B + 1) W ((W.setRow gA cs).setCell ⟨B + 1, 0, none⟩ v') /\
 (∃ A c', v' = .slice A (N - d - k) c' /\ HasB ((W.setRow gA cs).setCell ⟨B + 1, 0, none⟩ v') ((W.setRow gA cs).setCell ⟨B + 1, 0, none⟩ v').heap.size A (N - d - k) (b.drop (d + k)) /\ N - d - k <= c' /\ ∀ x, A = some x -> 0 < N - d - k -> E x.block) := by
 have hgB : ∀ i, i < 8 -> B + i ≠ gA := fun i hi h => hA (.inr ⟨by omega, by omega⟩)
 have y1 : Only (fun k => k = gA) W (W.setRow gA cs) := (Only.refl _ W).setRow (S := fun k => k = gA) rfl cs
 have y : Only (fun k => k = gA \/ k = B + 1) W ((W.setRow gA cs).setCell ⟨B + 1, 0, none⟩ v') := (y1.mono (fun _ _ h => .inl h)).setCell (p := ⟨B + 1, 0, none⟩) (.inr rfl) _
 have l1 : (W.setRow gA cs).heap[B + 1]? = some (.cells #[v] 34) := (y1.block _ (Array.getElem?_eq_some_iff.1 a.k7).1 (fun h => hgB 1 (by omega) h)).trans a.k7
 refine ⟨a.t.add (y.mono (fun k _ hk => .inl (hk.elim (fun h => .inr (h ▸ hX)) (fun h => .inl (.inr ⟨by omega, by omega⟩))))) (fun k hk => .inl hk), ?_, ?_, ?_, a.pc.only y (fun k h4 h5 h => h.elim (fun h => hgB (k - B) (by omega) (by omega)) (fun h => by omega)), y, ?_⟩
 · exact (y.block _ (Array.getElem?_eq_some_iff.1 a.k4).1 (fun h => h.elim (fun h => hgB 0 (by omega) h) (fun h => by omega))).trans a.k4
 · rw [heap_setCell_same _ (B + 1) 0 _ _ v' l1]; rfl
 · exact (y.block _ (Array.getElem?_eq_some_iff.1 a.k8).1 (fun h => h.elim (fun h => hgB 2 (by omega) h) (fun h => by omega))).trans a.k8
 · obtain ⟨A, c', e, hb, hc, hE⟩ := hv'
   exact ⟨A, c', e, hb.keep8 y (fun x hx h0 h => h.elim (fun h => hA (.inl (h ▸ hE x hx h0))) (fun h => by have := a.eB _ (hE x hx h0); omega)), hc, hE⟩
def wrAct (gt st at_ N B gq : Nat) (vb x : Value) : Act := { tmps := #[.pointer (some ⟨gt, 0, none⟩), .int .i64 (st : Int), .int .i64 (at_ : Int), vb, .pointer (some ⟨B, 0, none⟩), undef, undef, .pointer (some ⟨B + 1, 0, none⟩), .pointer (some ⟨B + 2, 0, none⟩), .pointer (some ⟨gq, 0, none⟩), undef, undef, undef, .int .i64 (st : Int), .int .i64 (at_ : Int), vb, .int .i64 (N : Int), .func (.func 130) #[] #[.pointer (some ⟨B + 5, 0, none⟩), .pointer (some ⟨B + 4, 0, none⟩), .pointer (some ⟨B + 3, 0, none⟩)], x, undef, undef, undef, undef, undef, undef, undef, undef, undef, undef, undef, undef, undef, undef, undef, undef, undef, undef, undef, undef, undef, undef, undef, undef, undef, undef, undef, undef], defers := [] }
theorem pkwrite_any (a : T3 Z w0 W g gd gp gt n V r q c F C E) (hV : V <= 1073000000) (st at_ N : Nat) (h1 : st <= 4294967296) (h2 : at_ <= 4294967296) (h3 : N <= 1048576) (hq : q + N < 1073741824) (hin : ∀ d, d < N -> st + (at_ + d) / 512 < n - 2 - r) (hc : c + ((at_ + N + 511) / 512 - at_ / 512) <= 40)
 (A : Option Addr) (cA : Nat) (hA : HasB W W.heap.size A N b) (hcA : N <= cA) (hcB : cA <= maxLen) (hE : ∀ a, A = some a -> 0 < N -> E a.block) :
 Calls Tryz.prog 96 #[.pointer (some ⟨gt, 0, none⟩), .int .i64 (st : Int), .int .i64 (at_ : Int), .slice A N cA] W fun e W' => e = .returned (.int .i64 0) /\ T3 Z w0 W' g gd gp gt n V r (q + N) (c + ((at_ + N + 511) / 512 - at_ / 512)) (wrF F st at_ b N) C E /\ Only (fun k => ¬ E k) W W' := by
 have A0 := lH a
 have HIN := lH hin
 have HA := lH hA
 have HC := lH hc
 have HE := lH hE
 have HQ := lH hq
 have hbl := hA.1
 have HBL := lH hbl
 clear a hin hA hc hE hq hbl
 refine (callsIn_wide (n := 3)).1 ?_
 refine callsIn_of_wp_marks Tryz.func96 rfl trivial ?_ rfl
 simp only [Tryz.ntmps96, List.size_toArray, List.length_cons, List.length_nil, Nat.reduceAdd, Nat.reduceSub, Array.replicate_succ, Array.replicate_zero, List.push_toArray, List.append_toArray, List.nil_append, List.cons_append]
 gi_wp2_with (first
  | (refine ⟨trivial, ?_⟩; gi_at_call 97; refine (callsIn_wide.2 (pieces_any st at_ N _)).mono ?_; rintro e w1 ⟨rfl, pk, b1, s1⟩))
 generalize hWa : World.alloc _ _ = Wa at pk b1 s1
 obtain ⟨sa, y0, y1, y2, ba⟩ := alloc3b hWa
 clear hWa
 obtain ⟨B, hB⟩ : ∃ B, W.heap.size = B := ⟨_, rfl⟩
 rw [hB] at sa y0 y1 y2
 rw [sa] at pk s1
 have z0 := (b1.block _ (by omega)).trans y0
 have z1 := (b1.block _ (by omega)).trans y1
 have z2 := (b1.block _ (by omega)).trans y2
 have yo : Only (fun k => W.heap.size <= k) W w1 := (Only.of_below ba (Nat.le_refl _)).trans ((Only.of_below b1 (Nat.le_refl _)).mono (fun k hk hk2 => hk2))
 simp only [sa, hB, Nat.add_assoc, Nat.reduceAdd]
 have hs1 : w1.heap.size = B + 6 := by omega
 have I0 : Hid (∀ W1, Only (fun _ => False) w1 W1 -> W1.heap.size = w1.heap.size + 2 -> WrI Z w0 W g gd gp gt n V r q c F C E (fun _ => False) B st at_ N b 0 (.slice A N cA) W1) := lH (fun W1 ho hsz => by
  have yo1 : Only (fun k => W.heap.size <= k) W W1 := yo.trans (ho.mono (fun _ _ h => h.elim))
  have bl : ∀ {i : Nat} {o : Obj}, w1.heap[i]? = some o -> W1.heap[i]? = some o := fun h => (ho.block _ (Array.getElem?_eq_some_iff.1 h).1 (fun h => h)).trans h
  have hltE : ∀ k, E k -> k < W.heap.size := fun k hk => (A0.out.lt k hk).2
  refine ⟨((A0.out.add (E' := fun k => (E k \/ wrX B k) \/ False) (yo1.mono (fun k _ hk => .inr hk)) (fun k hk => ?_)).congr (fun i hi => (wrF_zero (A0.out.sz.2.2 i hi)).symm) (fun _ _ => rfl)).more (Nat.le_refl _) (by omega) (by unfold cw; split <;> omega), bl z0, bl z1, bl z2, pk.only ho (fun _ _ _ h => h), ⟨A, cA, rfl, HA.out.keep8 yo1 (fun x hx h0 h => by have := hltE _ (HE.out x hx h0); omega), by omega, fun x hx h0 => HE.out x hx (by omega)⟩, yo1.mono (fun k _ hk he => by have := hltE k he; omega), fun k hk => by have := hltE k hk; omega, .inl rfl⟩
  rcases hk with (hk | hk) | hk
  · exact .inl hk
  · exact .inr ⟨by have := hk.1; omega, by have := hk.2; omega⟩
  · exact hk.elim)
 clear pk b1 s1 y0 y1 y2 z0 z1 z2 yo ba sa
 refine wpIn_rangeX (α := Nat) rfl (by omega) (gf := 130) (lb := #[.pointer (some ⟨B + 3 + 2, 0, none⟩), .pointer (some ⟨B + 3 + 1, 0, none⟩), .pointer (some ⟨B + 3, 0, none⟩)]) rfl trivial (enters_of Tryz.func130 (by kernel_rfl) rfl)
  (pieces1_seq Fence.wide 2 trivial rfl (by omega) (B + 3) st at_ N h1 h2 (by omega)) (fun _ => rfl)
  (fun d W' => ∃ v, WrI Z w0 W g gd gp gt n V r q c F C E (fun _ => False) B st at_ N b d v W') (fun _ _ _ => False)
  (fun s X Y h ho => by obtain ⟨v, h⟩ := h; rw [hs1] at ho; exact ⟨v, h.two ho⟩) (fun _ _ _ _ h _ => h.elim) (fun s X h => by obtain ⟨v, h⟩ := h; exact h.pc)
  (fun W1 ho hs => ⟨_, I0.out W1 ho hs⟩)
  (fun d a' W' => ∃ gq v, a' = wrAct gt st at_ N B gq (.slice A N cA) (pcA st at_ N d)[0]! /\ WrI Z w0 W g gd gp gt n V r q c F C E (fun k => k = gq) B st at_ N b d v W' /\ B + 8 <= gq /\ W'.heap[gq]? = some (.cells #[.int .i64 ((st + (at_ + d) / 512 : Nat) : Int), .int .i64 (((at_ + d) % 512 : Nat) : Int), .int .i64 ((pcT at_ N d : Nat) : Int)] 171))
  (fun d a' X Y h ho => by
    obtain ⟨gq, v, e, h, h9, hb⟩ := h
    rw [hs1] at ho
    exact ⟨gq, v, e, h.two ho, h9, (ho.block _ (Array.getElem?_eq_some_iff.1 hb).1 (fun h => by rcases h with rfl | rfl <;> omega)).trans hb⟩)
  ?assign ?body ?done ?stop
 case assign =>
  rintro l d X K hG ⟨v, hv⟩ hK
  have HV := lH hv
  have hX9 : B + 8 <= X.heap.size := by have := (hv.t.lt (B + 7) (.inl (.inr ⟨by omega, by omega⟩))).2; omega
  have e0 : (pcA st at_ N d)[0]! = .agg #[.int .i64 ((st + (at_ + d) / 512 : Nat) : Int), .int .i64 (((at_ + d) % 512 : Nat) : Int), .int .i64 ((pcT at_ N d : Nat) : Int)] := rfl
  obtain ⟨sec, hsec⟩ : ∃ sec, st + (at_ + d) / 512 = sec := ⟨_, rfl⟩
  obtain ⟨fr, hfr⟩ : ∃ fr, (at_ + d) % 512 = fr := ⟨_, rfl⟩
  obtain ⟨tt, htt⟩ : ∃ tt, pcT at_ N d = tt := ⟨_, rfl⟩
  have hAA : pcA st at_ N d = #[.agg #[.int .i64 (sec : Int), .int .i64 (fr : Int), .int .i64 (tt : Int)]] := by unfold pcA; rw [hfr, htt, hsec]
  rw [hsec, hfr, htt] at hK e0
  rw [e0] at hK
  rw [hAA]
  have HK := lH hK
  clear hK hv e0 hsec hfr htt hAA
  gi_wp2
  have ho : Only (fun _ => False) X (X.alloc (.cells #[.int .i64 (sec : Int), .int .i64 (fr : Int), .int .i64 (tt : Int)] 171)) := (Only.refl _ X).alloc _
  have ho2 := ho.mono (T := fun k => X.heap.size <= k) (fun _ _ h => h.elim)
  exact HK.out _ _ ho ⟨v, HV.out.laid ho2 (fun k hk => .inl hk)⟩ ⟨X.heap.size, v, rfl, HV.out.laid ho2 (fun k hk => .inr (by subst hk; exact ⟨Nat.le_refl _, by simp⟩)), hX9, heap_alloc_new X _⟩
 case body =>
  rintro l d a' X hG hsz ⟨v0, hv0⟩ ⟨gq, v, rfl, hv, h9, hbx⟩
  obtain ⟨Ab, cb, rfl, hbs, hcb, hEb⟩ := hv.src
  have hal := hv.al
  have hG' : d < N := hG
  have HV := lH hv
  have HNI := lH (HIN.out d hG)
  have F512 := lH (hv.t.sz.2.2 _ (HIN.out d hG))
  have e0 : (pcA st at_ N d)[0]! = .agg #[.int .i64 ((st + (at_ + d) / 512 : Nat) : Int), .int .i64 (((at_ + d) % 512 : Nat) : Int), .int .i64 ((pcT at_ N d : Nat) : Int)] := rfl
  have hNx : pcN at_ N d = d + (pcT at_ N d - (at_ + d) % 512) := rfl
  have hT : pcT at_ N d = min ((at_ + d) % 512 + (N - d)) 512 := rfl
  obtain ⟨gb, ob, rfl, hgb, hbc⟩ := hbs.2 (by omega)
  obtain ⟨sec, hsec⟩ : ∃ sec, st + (at_ + d) / 512 = sec := ⟨_, rfl⟩
  obtain ⟨fr, hfr⟩ : ∃ fr, (at_ + d) % 512 = fr := ⟨_, rfl⟩
  obtain ⟨tt, htt⟩ : ∃ tt, pcT at_ N d = tt := ⟨_, rfl⟩
  rw [hsec, hfr, htt] at hbx e0
  rw [hfr, htt] at hNx hT
  rw [hsec] at HNI F512
  rw [e0]
  obtain ⟨kk, hkk⟩ : ∃ kk, tt - fr = kk := ⟨_, rfl⟩
  rw [hkk] at hNx
  obtain ⟨dn, hdn⟩ : ∃ dn, N - d = dn := ⟨_, rfl⟩
  rw [hdn] at hT hbs hcb hEb
  have DN := lH hdn
  have f1 : fr < 512 := by omega
  have f2 : fr < tt := by omega
  have f3 : tt <= 512 := by omega
  have f4 : kk <= dn := by omega
  have f5 : fr + kk <= 512 := by omega
  have f6 : 0 < kk := by omega
  have hdk : d + kk <= N := by omega
  have TTk := lH (show tt - fr = kk from hkk)
  have NX := lH hNx
  have SC := lH hsec
  have FR := lH hfr
  have hcw : cw c at_ N d < 40 /\ cw c at_ N d + 1 <= cw c at_ N (d + kk) := by
   have := HC.out
   unfold cw
   rw [if_pos hG']
   refine ⟨by omega, ?_⟩
   split <;> omega
  have CWH := lH hcw
  have ALN : Hid (d + kk = 0 \/ (at_ + (d + kk)) % 512 = 0 \/ d + kk = N) := lH (by omega)
  have CR := lH (hv.t.read hV sec HNI.out)
  have k0 : X.cell? ⟨B, 0, none⟩ = some (.pointer (some ⟨gt, 0, none⟩)) := by rw [cell_of_row _ _ _ _ _ _ hv.k4]; rfl
  have k1 : X.cell? ⟨gq, 0, none⟩ = some (.int .i64 (sec : Int)) := by rw [cell_of_row _ _ _ _ _ _ hbx]; rfl
  have HBX := lH hbx
  have HBS := lH hbs
  have HEB := lH hEb
  have hgbE := hEb _ rfl (by omega)
  have EGB : Hid (E gb) := lH hgbE
  clear hv hv0 e0 hNx hT hsec hfr htt hbx hkk hdn hbs hEb hal hcw hbc hgb hgbE
  rw [DN.out] at HV
  unfold wrAct
  gi_wp2_with (first
   | (refine ⟨trivial, ?_⟩; gi_at_call 91; refine (CallsIn.inRound l (callsIn_wide.2 CR.out)).mono ?_; rintro e w3 ⟨As, ms, c3, rfl, hx, t3, y3⟩
      have hm := hx.len
      rw [F512.out] at hm
      subst hm
      obtain ⟨gA, rfl, hA1, hA2, _⟩ := hx.head (by omega)
      have R3 := lH (HV.out.step (X' := fun k => k = gq \/ InB (some ⟨gA, 0, none⟩) k) (t3.less (fun k hk => by
       rcases hk with hk | hk | hk
       · exact .inl (.inl hk)
       · exact .inl (.inr hk)
       · exact .inr hk)) y3 (fun k b1 b2 h => h (.inl (.inr ⟨b1, by omega⟩))) (fun k hk h => h (.inl (.inl hk))))
      have X3 := lH ((y3.block gq (Array.getElem?_eq_some_iff.1 HBX.out).1 (fun h => h (.inr rfl))).trans HBX.out)
      have OX3 := lH hx
      have hc3 := hx.caps.1
      have D7 := lH (y3.block (B + 6) (by omega) (fun h => h (.inl (.inr ⟨by omega, by omega⟩))))
      have D8 := lH (y3.block (B + 7) (by omega) (fun h => h (.inl (.inr ⟨by omega, by omega⟩))))
      have NA : Hid (¬ (E gA \/ wrX B gA) /\ gA ≠ gq /\ gA ≠ gb) := lH (by
       have q1 := (Array.getElem?_eq_some_iff.1 HBX.out).1
       have q2 := HV.out.t.lt
       refine ⟨fun h => by have := (q2 gA (.inl h)).2; omega, fun h => by omega, fun h => by have := (q2 gb (.inl (.inl EGB.out))).2; omega⟩)
      have hcf : ¬ c3 = fr := by omega
      clear hx t3 y3))
  obtain ⟨M, hM⟩ : ∃ M, (b.drop d).take kk = M := ⟨_, rfl⟩
  have hml : M.length = kk := by rw [<- hM, List.length_take, <- HBS.out.1]; omega
  obtain ⟨cur, tA, hcur, hcs, hfit, hhas⟩ := over_own (w := w3.drew) (k := kk) (fr := fr) (show OwnX w3.drew _ _ _ from OX3.out) hml f5
  have CUR : Hid (w3.drew.heap[gA]? = some (.cells cur tA (0, 0))) := lH hcur
  have FIT := lH hfit
  have HAS := lH hhas
  have HML : Hid ((cellsB M).length = kk) := lH (by rw [cellsB_length, hml])
  have MNL : Hid ((cellsB M).length = Nat.min dn (tt - fr)) := lH (by rw [cellsB_length, hml, TTk.out]; exact (Nat.min_eq_right f4).symm)
  have MO : Hid (∀ u ∈ cellsB M, u.oneCell' = true) := lH (fun u hu => by
   unfold cellsB at hu
   obtain ⟨x, _, rfl⟩ := List.mem_map.1 hu
   rfl)
  have MN : Hid (∀ (j : Nat) (u : Value), (cellsB M)[j]? = some u -> w3.drew.cell? ((⟨gb, ob, none⟩ : Addr).add j) = some u) := lH (fun j u hj => by
   obtain ⟨x, hx, rfl⟩ : ∃ x : UInt8, M[j]? = some x /\ Value.int .u8 (x.toNat : Int) = u := by
    unfold cellsB at hj
    rw [List.getElem?_map] at hj
    cases hq : M[j]? with
    | none => rw [hq] at hj; cases hj
    | some x => rw [hq] at hj; exact ⟨x, rfl, by simpa using hj⟩
   rw [Addr.add_lit]
   have hjl := (List.getElem?_eq_some_iff.1 hx).1
   rw [<- hM, List.getElem?_take, if_pos (by omega)] at hx
   obtain ⟨A', c', e', hb', _, _⟩ := R3.out.src
   rw [DN.out] at hb' e'
   simp only [Value.slice.injEq] at e'
   obtain ⟨rfl, _, rfl⟩ := e'
   obtain ⟨g', o', e', _, hc'⟩ := hb'.2 (by omega)
   simp only [Option.some.injEq, Addr.mk.injEq, and_true] at e'
   obtain ⟨rfl, rfl⟩ := e'
   exact hc' _ _ hx)
  have HM := lH hM
  have g1 : tt <= c3 := by omega
  have g2 : fr <= tt := by omega
  have k10 : w3.cell? ⟨B + 1, 0, none⟩ = some (.slice (some ⟨gb, ob, none⟩) dn cb) := by rw [cell_of_row _ _ _ _ _ _ R3.out.k7]; rfl
  have k10f : w3.frozen? ⟨B + 1, 0, none⟩ = false := frozen_of_row w3 (B + 1) 0 _ _ R3.out.k7
  obtain ⟨Ar, hAr⟩ : ∃ Ar, (if cb = kk then some (⟨gb, ob, none⟩ : Addr) else some ⟨gb, ob + kk, none⟩) = Ar := ⟨_, rfl⟩
  have HAR := lH hAr
  obtain ⟨wcp, hwcp⟩ : ∃ wcp, w3.drew.setRow gA (cur.toList.take fr ++ (cellsB M ++ cur.toList.drop (fr + (cellsB M).length))).toArray = wcp := ⟨_, rfl⟩
  have ycp : Only (fun k => k = gA) w3.drew wcp := by rw [<- hwcp]; exact (Only.refl (fun k => k = gA) w3.drew).setRow rfl _
  have l7c := (ycp.block (B + 1) (Array.getElem?_eq_some_iff.1 R3.out.k7).1 (fun h => NA.out.1 (.inr ⟨by omega, by omega⟩))).trans R3.out.k7
  have k10c : wcp.cell? ⟨B + 1, 0, none⟩ = some (.slice (some ⟨gb, ob, none⟩) dn cb) := by rw [cell_of_row _ _ _ _ _ _ l7c]; rfl
  have k10cf : wcp.frozen? ⟨B + 1, 0, none⟩ = false := frozen_of_row wcp (B + 1) 0 _ _ l7c
  have XC : Hid (wcp.heap[gq]? = some (.cells #[.int .i64 (sec : Int), .int .i64 (fr : Int), .int .i64 (tt : Int)] 171)) := lH ((ycp.block gq (Array.getElem?_eq_some_iff.1 X3.out).1 (fun h => NA.out.2.1 h.symm)).trans X3.out)
  have XF : Hid (∀ u, (wcp.setCell ⟨B + 1, 0, none⟩ u).heap[gq]? = some (.cells #[.int .i64 (sec : Int), .int .i64 (fr : Int), .int .i64 (tt : Int)] 171)) := lH (fun u => (heap_setCell_other wcp _ gq _ (by show gq ≠ B + 1; omega)).trans XC.out)
  have WCP := lH hwcp
  have HMM : Hid (M.length = kk) := lH hml
  have hsr : HasB w3.drew w3.drew.heap.size Ar (dn - kk) (b.drop (d + kk)) := by
   obtain ⟨A', c', e', hb', _, _⟩ := R3.out.src
   rw [DN.out] at hb' e'
   simp only [Value.slice.injEq] at e'
   obtain ⟨rfl, _, rfl⟩ := e'
   have hw := (show HasB w3.drew w3.drew.heap.size (some ⟨gb, ob, none⟩) dn (b.drop d) from hb').window (k := kk) (s := dn - kk) (by omega) (A' := Ar) (m := dn - kk) rfl (fun h0 => by rw [<- hAr, if_neg (by omega)])
   rwa [List.drop_drop, List.take_of_length_le (by rw [List.length_drop, <- HBL.out]; have := DN.out; omega)] at hw
  have HSR := lH hsr
  have HER : Hid (∀ x, Ar = some x -> 0 < dn - kk -> E x.block) := lH (fun x hx _ => by
   rw [<- hAr] at hx
   split at hx <;> (injection hx with hx; rw [<- hx]; exact EGB.out))
  clear hsr
  have eM : goInt (cellsB M).length = .int .i64 (kk : Int) := by rw [HML.out]; rfl
  have EM := lH eM
  clear hM hml hcur hcs hfit hhas hAr hwcp ycp l7c eM
  refine wpIn_region_held (S := fun Y => Y.heap[gq]? = some (.cells #[.int .i64 (sec : Int), .int .i64 (fr : Int), .int .i64 (tt : Int)] 171)) (by kernel_rfl) (by kernel_rfl) X3.out (fun hHeld => ?_)
  refine tk9 (i := 1) (h := ?_)
  try simp only [aP,aN,aS,aZ,aC]
  refine tk9 (i := 2) (h := ?_)
  try simp only [aP,aN,aS,aZ,aC]
  refine tk9 (i := 4) (h := ?_)
  try simp only [aP,aN,aS,aZ,aC]
  refine tk9 (i := 3) (hy := (yieldsIf_loadG (by rfl) 3 (.tmp 31) rfl ⟨gq, 1, none⟩ rfl (.int .i64 (fr : Int)) (fun Y hY => load_i9 (by rw [cell_of_row _ _ _ _ _ _ hY]; rfl)))) (h := ?_)
  try simp only [aP,aN,aS,aZ,aC]
  refine tk9 (i := 5) (hy := (yieldsIf_loadG (by rfl) 3 (.tmp 33) rfl ⟨gq, 2, none⟩ rfl (.int .i64 (tt : Int)) (fun Y hY => load_i9 (by rw [cell_of_row _ _ _ _ _ _ hY]; rfl)))) (h := ?_)
  try simp only [aP,aN,aS,aZ,aC]
  refine tk9 (i := 6) (h := ?_)
  try simp only [aP,aN,aS,aZ,aC]
  refine wpAnyH_ready (rs := [0, 7]) (by kernel_rfl) (by simp) ?_
  refine rc9 (h := fun K hK => ?_) (hs := ?_)
  · go_simp
    refine hK _ _ (show _ from X3.out) (fun hHx => ?_)
    clear hK K
    try simp only [aP,aN,aS,aZ,aC]
    refine rd9 (i := 7) (h := fun K hK => ?_)
    go_simp
    refine hK _ _ (show _ from X3.out) (fun hHx => ?_)
    clear hK K
    try simp only [aP,aN,aS,aZ,aC]
    refine rd9 (i := 8) (h := fun K hK => ?_)
    refine step_copyP (by rfl) (.tmp 35) (.tmp 36) 34 34 rfl 5 Tryz.underlying34 (by kernel_rfl) gA fr (tt - fr) (c3 - fr) ⟨gb, ob, none⟩ dn cb rfl rfl cur tA CUR.out (cellsB M) MNL.out MN.out FIT.out MO.out ?_
    rw [WCP.out, EM.out]
    refine hK _ _ XC.out (fun hHx => ?_)
    clear hK K
    try simp only [aP,aN,aS,aZ,aC]
    refine rd9 (i := 9) (h := fun K hK => ?_)
    go_simp
    rw [HAR.out]
    refine hK _ _ (show _ from XC.out) (fun hHx => ?_)
    clear hK K
    try simp only [aP,aN,aS,aZ,aC]
    refine rd9 (i := 10) (h := fun K hK => ?_)
    go_simp
    refine hK _ _ (XF.out _) (fun hHx => ?_)
    clear hK K
    try simp only [aP,aN,aS,aZ,aC]
    refine wpAnyH_done (by kernel_rfl) ?_ _
    obtain ⟨t9, q4, q7, q8, qpc, qy, qsrc⟩ := R3.out.drew.copied (gA := gA) (k := kk) (v' := .slice Ar (dn - kk) (cb - kk)) (cs := (cur.toList.take fr ++ (cellsB M ++ cur.toList.drop (fr + (cellsB M).length))).toArray) (.inr ⟨_, rfl, rfl⟩) NA.out.1 hdk ⟨Ar, cb - kk, by rw [DN.out], by rw [DN.out]; exact HSR.out, by rw [DN.out]; omega, by rw [DN.out]; exact HER.out⟩
    rw [WCP.out] at t9 q4 q7 q8 qpc qy qsrc
    have HASf := lH (HAS.out.keep8 ((Only.refl (fun k => k = B + 1) _).setCell (p := ⟨B + 1, 0, none⟩) rfl (.slice Ar (dn - kk) (cb - kk))) (fun a ha _ h => by injection ha with ha; subst ha; have h2 : gA = B + 1 := h; exact NA.out.1 (.inr ⟨by omega, by omega⟩)))
    rw [WCP.out] at HASf
    have XFF := lH (XF.out (.slice Ar (dn - kk) (cb - kk)))
    obtain ⟨wf, hwf⟩ : ∃ wf, wcp.setCell ⟨B + 1, 0, none⟩ (.slice Ar (dn - kk) (cb - kk)) = wf := ⟨_, rfl⟩
    rw [hwf] at t9 q4 q7 q8 qpc qy qsrc HASf XFF ⊢
    have CWR := lH (t9.write hV (by have := HQ.out; omega) CWH.out.1 sec HNI.out (some ⟨gA, 0, none⟩) c3 _ HASf.out (over_512 F512.out (by rw [HMM.out]; exact f5)) hc3)
    have k0f : wf.cell? ⟨B, 0, none⟩ = some (.pointer (some ⟨gt, 0, none⟩)) := by rw [cell_of_row _ _ _ _ _ _ q4]; rfl
    have k1f : wf.cell? ⟨gq, 0, none⟩ = some (.int .i64 (sec : Int)) := by rw [cell_of_row _ _ _ _ _ _ XFF.out]; rfl
    have T9 := lH t9
    have Q4 := lH q4
    have Q7 := lH q7
    have Q8 := lH q8
    have QPC := lH qpc
    have QY := lH qy
    have QS := lH qsrc
    clear t9 q4 q7 q8 qpc qy qsrc hwf k10 k10f k10c k10cf k0 k1
    simp only [onlyN]
    gi_wp2_with (first
     | (refine ⟨trivial, ?_⟩; gi_at_call 71; refine (CallsIn.inRound l (callsIn_wide.2 CWR.out)).mono ?_; rintro e w9 ⟨rfl, t10, y10⟩
        have T10 := lH t10
        have Y10 := lH y10
        clear t10 y10))
    have dk : ∀ i, i < 8 -> i ≠ 1 -> w3.heap[B + i]? = X.heap[B + i]? -> w9.heap[B + i]? = X.heap[B + i]? := fun i hi h1' hx => by
     have hl : B + i < w3.drew.heap.size := (R3.out.t.lt (B + i) (.inl (.inr ⟨by omega, by omega⟩))).2
     have hl2 : B + i < wf.heap.size := Nat.lt_of_lt_of_le hl QY.out.size
     exact ((Y10.out.block (B + i) hl2 (fun h => h (.inl (.inr ⟨by omega, by omega⟩)))).trans (QY.out.block (B + i) hl (fun h => h.elim (fun h => NA.out.1 (.inr ⟨by omega, by omega⟩)) (fun h => by omega)))).trans hx
    have keepO : ∀ {i : Nat} {o : Obj}, i < 8 -> wf.heap[B + i]? = some o -> w9.heap[B + i]? = some o := fun hi h => (Y10.out.block _ (Array.getElem?_eq_some_iff.1 h).1 (fun h => h (.inl (.inr ⟨by omega, by omega⟩)))).trans h
    refine (show _ /\ _ from ⟨⟨?_, ?_⟩, .slice Ar (dn - kk) (cb - kk), ?_⟩)
    · rw [hs1]; exact dk 6 (by omega) (by omega) D7.out
    · rw [hs1]; exact dk 7 (by omega) (by omega) D8.out
    · rw [NX.out]
      refine ⟨((T10.out.less (E' := fun k => (E k \/ wrX B k) \/ False) (fun k hk => hk.elim .inl (fun h => h.elim))).congr (fun i hi => ?_) (fun _ _ => rfl)).more (Nat.le_refl _) (by omega) CWH.out.2, keepO (i := 0) (by omega) Q4.out, keepO (i := 1) (by omega) Q7.out, keepO (i := 2) (by omega) Q8.out, QPC.out.only Y10.out (fun k b1 b2 h => h (.inl (.inr ⟨by omega, by omega⟩))), ?_, ?_, R3.out.eB, ALN.out⟩
      · rw [<- HM.out]
        exact (wrF_step SC.out FR.out f5 (by rw [<- HBL.out]; exact hdk) i (A0.out.sz.2.2 i hi)).symm
      · obtain ⟨A', c', e', hb', hc', hE'⟩ := QS.out
        exact ⟨A', c', by rw [e', Nat.sub_sub], by rw [<- Nat.sub_sub]; exact hb'.keep8 Y10.out (fun x hx h0 h => h (.inl (.inl (hE' x hx h0)))), by omega, fun x hx h0 => hE' x hx (by omega)⟩
      · exact (R3.out.only.trans (((Only.refl (fun k => k = gA \/ k = B + 1) w3).drew.trans QY.out).mono (fun k _ hk he => hk.elim (fun h => NA.out.1 (.inl (h ▸ he))) (fun h => by have := R3.out.eB k he; omega)))).trans (Y10.out.mono (fun k _ hk he => hk (.inl (.inl he))))
  refine rc9 (h := fun K hK => ?_) (hs := AllReadyH.nil)
  go_simp
  refine hK _ _ (show _ from X3.out) (fun hHx => ?_)
  clear hK K
  try simp only [aP,aN,aS,aZ,aC]
  refine wpAnyH_ready (rs := [0, 8]) (by kernel_rfl) (by simp) ?_
  refine rc9 (h := fun K hK => ?_) (hs := ?_)
  · go_simp
    refine hK _ _ (show _ from X3.out) (fun hHx => ?_)
    clear hK K
    try simp only [aP,aN,aS,aZ,aC]
    refine rd9 (i := 8) (h := fun K hK => ?_)
    refine step_copyP (by rfl) (.tmp 35) (.tmp 36) 34 34 rfl 5 Tryz.underlying34 (by kernel_rfl) gA fr (tt - fr) (c3 - fr) ⟨gb, ob, none⟩ dn cb rfl rfl cur tA CUR.out (cellsB M) MNL.out MN.out FIT.out MO.out ?_
    rw [WCP.out, EM.out]
    refine hK _ _ XC.out (fun hHx => ?_)
    clear hK K
    try simp only [aP,aN,aS,aZ,aC]
    refine rd9 (i := 9) (h := fun K hK => ?_)
    go_simp
    rw [HAR.out]
    refine hK _ _ (show _ from XC.out) (fun hHx => ?_)
    clear hK K
    try simp only [aP,aN,aS,aZ,aC]
    refine rd9 (i := 10) (h := fun K hK => ?_)
    go_simp
    refine hK _ _ (XF.out _) (fun hHx => ?_)
    clear hK K
    try simp only [aP,aN,aS,aZ,aC]
    refine wpAnyH_done (by kernel_rfl) ?_ _
    obtain ⟨t9, q4, q7, q8, qpc, qy, qsrc⟩ := R3.out.drew.copied (gA := gA) (k := kk) (v' := .slice Ar (dn - kk) (cb - kk)) (cs := (cur.toList.take fr ++ (cellsB M ++ cur.toList.drop (fr + (cellsB M).length))).toArray) (.inr ⟨_, rfl, rfl⟩) NA.out.1 hdk ⟨Ar, cb - kk, by rw [DN.out], by rw [DN.out]; exact HSR.out, by rw [DN.out]; omega, by rw [DN.out]; exact HER.out⟩
    rw [WCP.out] at t9 q4 q7 q8 qpc qy qsrc
    have HASf := lH (HAS.out.keep8 ((Only.refl (fun k => k = B + 1) _).setCell (p := ⟨B + 1, 0, none⟩) rfl (.slice Ar (dn - kk) (cb - kk))) (fun a ha _ h => by injection ha with ha; subst ha; have h2 : gA = B + 1 := h; exact NA.out.1 (.inr ⟨by omega, by omega⟩)))
    rw [WCP.out] at HASf
    have XFF := lH (XF.out (.slice Ar (dn - kk) (cb - kk)))
    obtain ⟨wf, hwf⟩ : ∃ wf, wcp.setCell ⟨B + 1, 0, none⟩ (.slice Ar (dn - kk) (cb - kk)) = wf := ⟨_, rfl⟩
    rw [hwf] at t9 q4 q7 q8 qpc qy qsrc HASf XFF ⊢
    have CWR := lH (t9.write hV (by have := HQ.out; omega) CWH.out.1 sec HNI.out (some ⟨gA, 0, none⟩) c3 _ HASf.out (over_512 F512.out (by rw [HMM.out]; exact f5)) hc3)
    have k0f : wf.cell? ⟨B, 0, none⟩ = some (.pointer (some ⟨gt, 0, none⟩)) := by rw [cell_of_row _ _ _ _ _ _ q4]; rfl
    have k1f : wf.cell? ⟨gq, 0, none⟩ = some (.int .i64 (sec : Int)) := by rw [cell_of_row _ _ _ _ _ _ XFF.out]; rfl
    have T9 := lH t9
    have Q4 := lH q4
    have Q7 := lH q7
    have Q8 := lH q8
    have QPC := lH qpc
    have QY := lH qy
    have QS := lH qsrc
    clear t9 q4 q7 q8 qpc qy qsrc hwf k10 k10f k10c k10cf k0 k1
    simp only [onlyN]
    gi_wp2_with (first
     | (refine ⟨trivial, ?_⟩; gi_at_call 71; refine (CallsIn.inRound l (callsIn_wide.2 CWR.out)).mono ?_; rintro e w9 ⟨rfl, t10, y10⟩
        have T10 := lH t10
        have Y10 := lH y10
        clear t10 y10))
    have dk : ∀ i, i < 8 -> i ≠ 1 -> w3.heap[B + i]? = X.heap[B + i]? -> w9.heap[B + i]? = X.heap[B + i]? := fun i hi h1' hx => by
     have hl : B + i < w3.drew.heap.size := (R3.out.t.lt (B + i) (.inl (.inr ⟨by omega, by omega⟩))).2
     have hl2 : B + i < wf.heap.size := Nat.lt_of_lt_of_le hl QY.out.size
     exact ((Y10.out.block (B + i) hl2 (fun h => h (.inl (.inr ⟨by omega, by omega⟩)))).trans (QY.out.block (B + i) hl (fun h => h.elim (fun h => NA.out.1 (.inr ⟨by omega, by omega⟩)) (fun h => by omega)))).trans hx
    have keepO : ∀ {i : Nat} {o : Obj}, i < 8 -> wf.heap[B + i]? = some o -> w9.heap[B + i]? = some o := fun hi h => (Y10.out.block _ (Array.getElem?_eq_some_iff.1 h).1 (fun h => h (.inl (.inr ⟨by omega, by omega⟩)))).trans h
    refine (show _ /\ _ from ⟨⟨?_, ?_⟩, .slice Ar (dn - kk) (cb - kk), ?_⟩)
    · rw [hs1]; exact dk 6 (by omega) (by omega) D7.out
    · rw [hs1]; exact dk 7 (by omega) (by omega) D8.out
    · rw [NX.out]
      refine ⟨((T10.out.less (E' := fun k => (E k \/ wrX B k) \/ False) (fun k hk => hk.elim .inl (fun h => h.elim))).congr (fun i hi => ?_) (fun _ _ => rfl)).more (Nat.le_refl _) (by omega) CWH.out.2, keepO (i := 0) (by omega) Q4.out, keepO (i := 1) (by omega) Q7.out, keepO (i := 2) (by omega) Q8.out, QPC.out.only Y10.out (fun k b1 b2 h => h (.inl (.inr ⟨by omega, by omega⟩))), ?_, ?_, R3.out.eB, ALN.out⟩
      · rw [<- HM.out]
        exact (wrF_step SC.out FR.out f5 (by rw [<- HBL.out]; exact hdk) i (A0.out.sz.2.2 i hi)).symm
      · obtain ⟨A', c', e', hb', hc', hE'⟩ := QS.out
        exact ⟨A', c', by rw [e', Nat.sub_sub], by rw [<- Nat.sub_sub]; exact hb'.keep8 Y10.out (fun x hx h0 h => h (.inl (.inl (hE' x hx h0)))), by omega, fun x hx h0 => hE' x hx (by omega)⟩
      · exact (R3.out.only.trans (((Only.refl (fun k => k = gA \/ k = B + 1) w3).drew.trans QY.out).mono (fun k _ hk he => hk.elim (fun h => NA.out.1 (.inl (h ▸ he))) (fun h => by have := R3.out.eB k he; omega)))).trans (Y10.out.mono (fun k _ hk he => hk (.inl (.inl he))))
  refine rc9 (h := fun K hK => ?_) (hs := AllReadyH.nil)
  refine step_copyP (by rfl) (.tmp 35) (.tmp 36) 34 34 rfl 5 Tryz.underlying34 (by kernel_rfl) gA fr (tt - fr) (c3 - fr) ⟨gb, ob, none⟩ dn cb rfl rfl cur tA CUR.out (cellsB M) MNL.out MN.out FIT.out MO.out ?_
  rw [WCP.out, EM.out]
  refine hK _ _ XC.out (fun hHx => ?_)
  clear hK K
  try simp only [aP,aN,aS,aZ,aC]
  refine rd9 (i := 0) (h := fun K hK => ?_)
  go_simp
  refine hK _ _ (show _ from XC.out) (fun hHx => ?_)
  clear hK K
  try simp only [aP,aN,aS,aZ,aC]
  refine rd9 (i := 9) (h := fun K hK => ?_)
  go_simp
  rw [HAR.out]
  refine hK _ _ (show _ from XC.out) (fun hHx => ?_)
  clear hK K
  try simp only [aP,aN,aS,aZ,aC]
  refine rd9 (i := 10) (h := fun K hK => ?_)
  go_simp
  refine hK _ _ (XF.out _) (fun hHx => ?_)
  clear hK K
  try simp only [aP,aN,aS,aZ,aC]
  refine wpAnyH_done (by kernel_rfl) ?_ _
  obtain ⟨t9, q4, q7, q8, qpc, qy, qsrc⟩ := R3.out.drew.copied (gA := gA) (k := kk) (v' := .slice Ar (dn - kk) (cb - kk)) (cs := (cur.toList.take fr ++ (cellsB M ++ cur.toList.drop (fr + (cellsB M).length))).toArray) (.inr ⟨_, rfl, rfl⟩) NA.out.1 hdk ⟨Ar, cb - kk, by rw [DN.out], by rw [DN.out]; exact HSR.out, by rw [DN.out]; omega, by rw [DN.out]; exact HER.out⟩
  rw [WCP.out] at t9 q4 q7 q8 qpc qy qsrc
  have HASf := lH (HAS.out.keep8 ((Only.refl (fun k => k = B + 1) _).setCell (p := ⟨B + 1, 0, none⟩) rfl (.slice Ar (dn - kk) (cb - kk))) (fun a ha _ h => by injection ha with ha; subst ha; have h2 : gA = B + 1 := h; exact NA.out.1 (.inr ⟨by omega, by omega⟩)))
  rw [WCP.out] at HASf
  have XFF := lH (XF.out (.slice Ar (dn - kk) (cb - kk)))
  obtain ⟨wf, hwf⟩ : ∃ wf, wcp.setCell ⟨B + 1, 0, none⟩ (.slice Ar (dn - kk) (cb - kk)) = wf := ⟨_, rfl⟩
  rw [hwf] at t9 q4 q7 q8 qpc qy qsrc HASf XFF ⊢
  have CWR := lH (t9.write hV (by have := HQ.out; omega) CWH.out.1 sec HNI.out (some ⟨gA, 0, none⟩) c3 _ HASf.out (over_512 F512.out (by rw [HMM.out]; exact f5)) hc3)
  have k0f : wf.cell? ⟨B, 0, none⟩ = some (.pointer (some ⟨gt, 0, none⟩)) := by rw [cell_of_row _ _ _ _ _ _ q4]; rfl
  have k1f : wf.cell? ⟨gq, 0, none⟩ = some (.int .i64 (sec : Int)) := by rw [cell_of_row _ _ _ _ _ _ XFF.out]; rfl
  have T9 := lH t9
  have Q4 := lH q4
  have Q7 := lH q7
  have Q8 := lH q8
  have QPC := lH qpc
  have QY := lH qy
  have QS := lH qsrc
  clear t9 q4 q7 q8 qpc qy qsrc hwf k10 k10f k10c k10cf k0 k1
  simp only [onlyN]
  gi_wp2_with (first
   | (refine ⟨trivial, ?_⟩; gi_at_call 71; refine (CallsIn.inRound l (callsIn_wide.2 CWR.out)).mono ?_; rintro e w9 ⟨rfl, t10, y10⟩
      have T10 := lH t10
      have Y10 := lH y10
      clear t10 y10))
  have dk : ∀ i, i < 8 -> i ≠ 1 -> w3.heap[B + i]? = X.heap[B + i]? -> w9.heap[B + i]? = X.heap[B + i]? := fun i hi h1' hx => by
   have hl : B + i < w3.drew.heap.size := (R3.out.t.lt (B + i) (.inl (.inr ⟨by omega, by omega⟩))).2
   have hl2 : B + i < wf.heap.size := Nat.lt_of_lt_of_le hl QY.out.size
   exact ((Y10.out.block (B + i) hl2 (fun h => h (.inl (.inr ⟨by omega, by omega⟩)))).trans (QY.out.block (B + i) hl (fun h => h.elim (fun h => NA.out.1 (.inr ⟨by omega, by omega⟩)) (fun h => by omega)))).trans hx
  have keepO : ∀ {i : Nat} {o : Obj}, i < 8 -> wf.heap[B + i]? = some o -> w9.heap[B + i]? = some o := fun hi h => (Y10.out.block _ (Array.getElem?_eq_some_iff.1 h).1 (fun h => h (.inl (.inr ⟨by omega, by omega⟩)))).trans h
  refine (show _ /\ _ from ⟨⟨?_, ?_⟩, .slice Ar (dn - kk) (cb - kk), ?_⟩)
  · rw [hs1]; exact dk 6 (by omega) (by omega) D7.out
  · rw [hs1]; exact dk 7 (by omega) (by omega) D8.out
  · rw [NX.out]
    refine ⟨((T10.out.less (E' := fun k => (E k \/ wrX B k) \/ False) (fun k hk => hk.elim .inl (fun h => h.elim))).congr (fun i hi => ?_) (fun _ _ => rfl)).more (Nat.le_refl _) (by omega) CWH.out.2, keepO (i := 0) (by omega) Q4.out, keepO (i := 1) (by omega) Q7.out, keepO (i := 2) (by omega) Q8.out, QPC.out.only Y10.out (fun k b1 b2 h => h (.inl (.inr ⟨by omega, by omega⟩))), ?_, ?_, R3.out.eB, ALN.out⟩
    · rw [<- HM.out]
      exact (wrF_step SC.out FR.out f5 (by rw [<- HBL.out]; exact hdk) i (A0.out.sz.2.2 i hi)).symm
    · obtain ⟨A', c', e', hb', hc', hE'⟩ := QS.out
      exact ⟨A', c', by rw [e', Nat.sub_sub], by rw [<- Nat.sub_sub]; exact hb'.keep8 Y10.out (fun x hx h0 h => h (.inl (.inl (hE' x hx h0)))), by omega, fun x hx h0 => hE' x hx (by omega)⟩
    · exact (R3.out.only.trans (((Only.refl (fun k => k = gA \/ k = B + 1) w3).drew.trans QY.out).mono (fun k _ hk he => hk.elim (fun h => NA.out.1 (.inl (h ▸ he))) (fun h => by have := R3.out.eB k he; omega)))).trans (Y10.out.mono (fun k _ hk he => hk (.inl (.inl he))))
 case done =>
  rintro d X hd ⟨v, hv⟩ hD
  subst hd
  have k8 : X.cell? ⟨B + 2, 0, none⟩ = some (.int .i64 0) := by rw [cell_of_row _ _ _ _ _ _ hv.k8]; rfl
  have f8 : X.frozen? ⟨B + 2, 0, none⟩ = false := frozen_of_row X (B + 2) 0 _ _ hv.k8
  have HV := lH hv
  clear hv
  gi_wp2
  generalize hY : World.setCell _ _ _ = Y
  have y : Only (fun k => k = B + 2) X Y := by rw [<- hY]; exact (Only.refl (fun k => k = B + 2) X).setCell (p := ⟨B + 2, 0, none⟩) rfl _
  have hD2 : Y.heap[B + 6]? = some (.deferred (some [])) := (y.block _ (by rw [hs1] at hD; exact (Array.getElem?_eq_some_iff.1 hD).1) (fun h => by omega)).trans (by rw [<- hs1]; exact hD)
  refine ⟨by simp, .inl ⟨_, _, rfl, run_takeDeferred hD2, ?_⟩⟩
  have z8 : Y.heap[B + 2]? = some (.cells #[.int .i64 0] 48) := by rw [<- hY, heap_setCell_same X (B + 2) 0 _ _ _ HV.out.k8]; rfl
  have y3 : Only (fun k => k = B + 2 \/ k = B + 6) X (Y.putObj (B + 6) (.deferred none)) := (y.mono (fun k _ h => .inl h)).trans ((only_putObj Y (B + 6) (.deferred none)).mono (fun k _ h => .inr h))
  have w8 : (Y.putObj (B + 6) (.deferred none)).cell? ⟨B + 2, 0, none⟩ = some (.int .i64 0) := by rw [cell_of_row _ _ _ _ _ _ ((World.putObj_heap_other (by omega)).trans z8)]; rfl
  clear z8 hY hD hD2
  refine ⟨.int .i64 0, ?_, rfl, ?_, HV.out.only.trans (y3.mono (fun k _ hk he => by have := HV.out.eB k he; omega))⟩
  · simp [results, Tryz.results96, go_sem, w8]
  · have := HV.out.t.add (E' := E) (y3.mono (fun k _ hk => .inl (.inl (.inr (by rcases hk with rfl | rfl <;> exact ⟨by omega, by omega⟩))))) (fun k hk => .inl (.inl (.inl hk)))
    unfold cw at this
    rw [if_neg (Nat.lt_irrefl _)] at this
    exact this
 case stop =>
  rintro c' d X _ h _
  exact h.elim
end
end Go.Proofs.YthoebjekkfhhgaaGreat
namespace Go.Proofs.YthoebjekkfhhgaaGreat
open Go.RowKit Go.Maps
structure Ent where
 s : Nat
 u : Nat
 v : Nat
def Ent.z : Ent := ⟨0, 0, 0⟩
def Ent.cells (e : Ent) : List Value := [.int .i64 (e.s : Int), .int .i64 (e.u : Int), .int .i64 (e.v : Int)]
def fld (l : List UInt8) (k : Nat) : Nat := num ((l.drop (4 * k)).take 4)
theorem fld_lt (l : List UInt8) (k : Nat) : fld l k < 4294967296 := by
 have h := num_lt ((l.drop (4 * k)).take 4)
 have hl : ((l.drop (4 * k)).take 4).length <= 4 := by rw [List.length_take]; omega
 have : 256 ^ ((l.drop (4 * k)).take 4).length <= 256 ^ 4 := Nat.pow_le_pow_right (by omega) hl
 have e : (256 : Nat) ^ 4 = 4294967296 := rfl
 unfold fld
 omega
def ent (l : List UInt8) : Ent := if fld l 0 = 0 then .z else ⟨fld l 0, fld l 1, fld l 2⟩
theorem fieldAt_any (A : Option Addr) (l : List UInt8) (m c : Nat) (k : Nat) (w : World) (h : HasB w w.heap.size A m l) (hc : m <= c) (hm : c <= maxLen) (hs : m <= 1073741824) (hk : k <= 2) (hl : 4 * k + 4 <= m) :
 Calls Tryz.prog 133 #[.slice A m c, .int .i64 (k : Int)] w fun e w' => e = .returned (.int .i64 ((fld l k : Nat) : Int)) /\ w = w' := by
 have ca := at_ok A l m c (4 * k) 4 w h hs hc hm (by omega) (by omega) (by have := h.len; omega)
 have hlt := fld_lt l k
 obtain ⟨v, hv⟩ : ∃ v, fld l k = v := ⟨_, rfl⟩
 rw [show num ((l.drop (4 * k)).take 4) = v from hv] at ca
 rw [hv] at hlt ⊢
 have CA := lH ca
 have e4 : (4 : Int) * (k : Int) = ((4 * k : Nat) : Int) := by omega
 have E4 := lH e4
 have hk4 : (4 : Int) * (k : Int) <= 8 := by omega
 have ew : IntKind.i64.wrap (v : Int) = (v : Int) := by rw [IntKind.wrap_i64]; omega
 clear ca hv e4 h
 go_enter Tryz.func133, Tryz.ntmps133
 go_wp2_with (first
  | (go_at_call 131; rw [E4.out]; refine CA.out.mono ?_; rintro e w3 ⟨rfl, rfl⟩))
 go_ret
 exact ⟨rfl, rfl⟩
theorem exists_any (e : Ent) (w : World) (r : Bool) (hr : decide (e.s ≠ 0) = r) :
 Calls Tryz.prog 85 #[.agg e.cells.toArray] w fun en w' => en = .returned (.bool r) /\ Below w.heap.size w w' := by
 obtain ⟨s, u, v⟩ := e
 unfold Ent.cells
 simp only at hr ⊢
 cases r
 · have hs : s = 0 := by simpa using hr
   subst hs
   clear hr
   go_enter Tryz.func85, Tryz.ntmps85
   go_wp2_with fail
   go_ret
   exact ⟨rfl, (Below.refl _ _).alloc (Nat.le_refl _) _⟩
 · have hs : ¬ (s : Int) = 0 := by have : s ≠ 0 := by simpa using hr
                                   omega
   have hs2 : ((s : Int) != 0) = true := by simpa using hs
   clear hr
   go_enter Tryz.func85, Tryz.ntmps85
   go_wp2_with fail
   go_ret
   exact ⟨by first | rfl | (congr 2), (Below.refl _ _).alloc (Nat.le_refl _) _⟩
theorem alloc2c {W : World} {o0 o1 : Obj} : ((W.alloc o0).alloc o1).heap.size = W.heap.size + 2 /\ ((W.alloc o0).alloc o1).heap[W.heap.size]? = some o0 /\ ((W.alloc o0).alloc o1).heap[W.heap.size + 1]? = some o1 /\ Below W.heap.size W ((W.alloc o0).alloc o1) := by
 obtain ⟨W1, h1⟩ : ∃ W1, W.alloc o0 = W1 := ⟨_, rfl⟩
 obtain ⟨W2, h2⟩ : ∃ W2, W1.alloc o1 = W2 := ⟨_, rfl⟩
 rw [h1, h2]
 have s1 : W1.heap.size = W.heap.size + 1 := by rw [<- h1, World.size_alloc]
 have s2 : W2.heap.size = W.heap.size + 2 := by rw [<- h2, World.size_alloc, s1]
 have x1 : W1.heap[W.heap.size]? = some o0 := by rw [<- h1]; exact heap_alloc_new W _
 have x2 : W2.heap[W.heap.size + 1]? = some o1 := by rw [<- h2, <- s1]; exact heap_alloc_new W1 _
 have b1 : Below W.heap.size W W1 := by rw [<- h1]; exact (Below.refl _ _).alloc (Nat.le_refl _) _
 have b2 : Below W1.heap.size W1 W2 := by rw [<- h2]; exact (Below.refl _ _).alloc (Nat.le_refl _) _
 exact ⟨s2, (b2.block _ (by omega)).trans x1, x2, b1.trans (b2.mono (by omega))⟩
theorem infoEnt : (Tryz.prog.info? 121).map (·.size) = some 3 := by kernel_rfl
theorem ent_ones (e : Ent) : ∀ v ∈ e.cells.toArray.toList, v.oneCell' = true := by
 intro v hv
 simp [Ent.cells] at hv
 rcases hv with rfl | rfl | rfl <;> rfl
theorem load_ent {Y : World} {b o : Nat} {e : Ent} (h : ∀ j u, e.cells[j]? = some u -> Y.cell? ⟨b, o + j, none⟩ = some u) : (loadVar 121 ⟨b, o, none⟩).run Tryz.prog Y = .ok (.agg e.cells.toArray) Y :=
 load_M (k := 3) rfl infoEnt (fun W => by unfold isAgg; rw [Sem.run_bind, run_underlying Tryz.underlying121 W]; rfl) h
theorem parse_any (A : Option Addr) (l : List UInt8) (m c : Nat) (w : World) (h : HasB w w.heap.size A m l) (hc : m <= c) (hm : c <= maxLen) (hs0 : m <= 1073741824) (hl : 12 <= m) :
 Calls Tryz.prog 101 #[.slice A m c] w fun e w' => e = .returned (.agg (ent l).cells.toArray) /\ Below w.heap.size w w' := by
 have b1 : Below w.heap.size w (w.alloc (.cells #[.int .i64 0, .int .i64 0, .int .i64 0] 121)) := (Below.refl _ _).alloc (Nat.le_refl _) _
 have h1 := h.on b1
 have C0 := lH (fieldAt_any A l m c 0 _ h1 hc hm hs0 (by omega) (by omega))
 have C1 := lH (fieldAt_any A l m c 1 _ h1 hc hm hs0 (by omega) (by omega))
 have C2 := lH (fieldAt_any A l m c 2 _ h1 hc hm hs0 (by omega) (by omega))
 obtain ⟨s, hs⟩ : ∃ s, fld l 0 = s := ⟨_, rfl⟩
 obtain ⟨u, hu⟩ : ∃ u, fld l 1 = u := ⟨_, rfl⟩
 obtain ⟨v, hv⟩ : ∃ v, fld l 2 = v := ⟨_, rfl⟩
 rw [hs] at C0
 rw [hu] at C1
 rw [hv] at C2
 have he : ent l = if s = 0 then .z else ⟨s, u, v⟩ := by unfold ent; rw [hs, hu, hv]
 have HE := lH he
 clear h h1 hs hu hv he b1
 by_cases h0 : s = 0
 · have CE := lH (fun W => exists_any ⟨s, u, v⟩ W false (by simp [h0]))
   have e1 : ent l = .z := by rw [HE.out, if_pos h0]
   rw [e1]
   clear h0 e1
   go_enter Tryz.func101, Tryz.ntmps101
   go_wp2_with (first
    | (go_at_call_of 133 (Value.int .i64 0); refine C0.out.mono ?_; rintro e w3 ⟨rfl, rfl⟩)
    | (go_at_call_of 133 (Value.int .i64 1); refine C1.out.mono ?_; rintro e w3 ⟨rfl, rfl⟩)
    | (go_at_call_of 133 (Value.int .i64 2); refine C2.out.mono ?_; rintro e w3 ⟨rfl, rfl⟩)
    | (go_at_call 85; refine (CE.out _).mono ?_; rintro e w4 ⟨rfl, b4⟩
       have z4 := (b4.block w.heap.size (by rw [alloc2c.1]; omega)).trans alloc2c.2.1
       have Z4 := lH z4
       have B4 := lH (alloc2c.2.2.2.trans (b4.mono (by rw [alloc2c.1]; omega)))
       clear b4 z4)
    | (refine wpList_store_row8 rfl 121 (.tmp 2) (.tmp 14) rfl w.heap.size Ent.z.cells.toArray rfl rfl 121 _ Z4.out infoEnt rfl (ent_ones _) ?_))
   refine bodyPost_ret (v := .agg Ent.z.cells.toArray) ?_ (by rfl) ?_
   · exact results_cell_row (p := 2) (ty := 121) rfl _ _ w.heap.size 121 Ent.z.cells.toArray _ _ rfl (setRow_heap _ _ _ _ 121 _ Z4.out) Tryz.underlying121 rfl infoEnt
   · exact ⟨rfl, below_setRow B4.out (Nat.le_refl _) _⟩
 · have CE := lH (fun W => exists_any ⟨s, u, v⟩ W true (by simpa using h0))
   have e1 : ent l = ⟨s, u, v⟩ := by rw [HE.out, if_neg h0]
   rw [e1]
   clear h0 e1
   go_enter Tryz.func101, Tryz.ntmps101
   go_wp2_with (first
    | (go_at_call_of 133 (Value.int .i64 0); refine C0.out.mono ?_; rintro e w3 ⟨rfl, rfl⟩)
    | (go_at_call_of 133 (Value.int .i64 1); refine C1.out.mono ?_; rintro e w3 ⟨rfl, rfl⟩)
    | (go_at_call_of 133 (Value.int .i64 2); refine C2.out.mono ?_; rintro e w3 ⟨rfl, rfl⟩)
    | (go_at_call 85; refine (CE.out _).mono ?_; rintro e w4 ⟨rfl, b4⟩
       have z4 := (b4.block w.heap.size (by rw [alloc2c.1]; omega)).trans alloc2c.2.1
       have z5 := (b4.block (w.heap.size + 1) (by rw [alloc2c.1]; omega)).trans alloc2c.2.2.1
       have LD := lH (load_ent (Y := w4) (b := w.heap.size + 1) (o := 0) (e := ⟨s, u, v⟩) (fun j x hx => by rw [Nat.zero_add, cell_of_row _ _ _ _ _ _ z5]; simpa [Ent.cells] using hx))
       have Z4 := lH z4
       have B4 := lH (alloc2c.2.2.2.trans (b4.mono (by rw [alloc2c.1]; omega)))
       clear b4 z4 z5)
    | (refine wpList_load8 rfl 121 (.tmp 3) rfl ⟨w.heap.size + 1, 0, none⟩ rfl _ LD.out ?_)
    | (refine wpList_store_row8 rfl 121 (.tmp 2) (.tmp 15) rfl w.heap.size (Ent.mk s u v).cells.toArray rfl rfl 121 _ Z4.out infoEnt rfl (ent_ones _) ?_))
   refine bodyPost_ret (v := .agg (Ent.mk s u v).cells.toArray) ?_ (by rfl) ?_
   · exact results_cell_row (p := 2) (ty := 121) rfl _ _ w.heap.size 121 (Ent.mk s u v).cells.toArray _ _ rfl (setRow_heap _ _ _ _ 121 _ Z4.out) Tryz.underlying121 rfl infoEnt
   · exact ⟨rfl, below_setRow B4.out (Nat.le_refl _) _⟩
def TE (F : Nat -> List UInt8) (k : Nat) : Ent := ent (rd F 2 (16 * k) 16)
theorem results_ent {fn : Func} {p u : Tmp} (h : fn.results = #[.cell p 121, .tmp u]) (tmps : Array Value) (w : World) (g : Nat) (e : Ent) (hp : tmps.getD p undef = .pointer (some ⟨g, 0, none⟩)) (hg : w.heap[g]? = some (.cells e.cells.toArray 121 (0, 0))) :
 (results fn tmps).run Tryz.prog w = .ok (.tuple #[.agg e.cells.toArray, tmps.getD u undef]) w := by
 have hl := load_ent (Y := w) (b := g) (o := 0) (e := e) (fun j x hx => by rw [Nat.zero_add, cell_of_row _ _ _ _ _ _ hg]; simpa using hx)
 have ha : (asAddr (.pointer (some ⟨g, 0, none⟩))).run Tryz.prog w = .ok ⟨g, 0, none⟩ w := by simp [asAddr, go_sem]
 rw [results_cell_tmp h, hp, ha]
 simp only [Result.andThen, hl]
section
variable {Z : DK} {w0 W W' : World} {g gd gp gt n V r q c : Nat} {F C : Nat -> List UInt8} {E E' : Nat -> Prop}
def RetE (Z : DK) (w0 W : World) (g gd gp gt n V r q c : Nat) (F C : Nat -> List UInt8) (E : Nat -> Prop) (x : Ent) (f : Int) (en : Ending) (W' : World) : Prop :=
 en = .returned (.tuple #[.agg x.cells.toArray, .int .i64 f]) /\ T3 Z w0 W' g gd gp gt n V r q c F C E /\ Only (fun k => ¬ E k) W W'
theorem T3.alloc (a : T3 Z w0 W g gd gp gt n V r q c F C E) (o : Obj) : T3 Z w0 (W.alloc o) g gd gp gt n V r q c F C (fun k => E k \/ k = W.heap.size) :=
 a.add ((Only.refl _ W).alloc o) (fun k hk => hk.imp id (fun h => by subst h; simp))
theorem pload_yes (a : T3 Z w0 W g gd gp gt n V r q c F C E) (hV : V <= 1073000000) (k : Nat) (hk : k < 64) (hs : (TE F k).s ≠ 0) :
 Calls Tryz.prog 66 #[.pointer (some ⟨gt, 0, none⟩), .int .i64 (k : Int)] W (RetE Z w0 W g gd gp gt n V r q c F C E (TE F k) 0) := by
 have sz := a.sz
 have A1 := a.alloc (.cells #[.int .i64 0, .int .i64 0, .int .i64 0] 121)
 have CR := pread_any A1 hV 2 (16 * k) 16 (by omega) (by omega) (by omega) (fun d hd => by omega)
 rw [show ((2 : Nat) : Int) = 2 from rfl, show ((16 : Nat) : Int) = 16 from rfl] at CR
 have CRH := lH CR
 have e16 : (16 : Int) * (k : Int) = ((16 * k : Nat) : Int) := by omega
 have E16 := lH e16
 have hk16 : (16 : Int) * (k : Int) <= 1008 := by omega
 obtain ⟨l, hl⟩ : ∃ l, rd F 2 (16 * k) 16 = l := ⟨_, rfl⟩
 have hll : l.length = 16 := by rw [<- hl, rd_len]
 have hT : TE F k = ent l := by unfold TE; rw [hl]
 rw [hl] at CRH
 rw [hT] at hs ⊢
 obtain ⟨x, hx⟩ : ∃ x, ent l = x := ⟨_, rfl⟩
 rw [hx] at hs ⊢
 have HX := lH hx
 have HLL := lH hll
 have CE := lH (fun W => exists_any x W true (by simpa using hs))
 have hltE : Hid (∀ k, E k -> k < W.heap.size) := lH (fun k hk => (a.lt k hk).2)
 have z1 : (W.alloc (.cells #[.int .i64 0, .int .i64 0, .int .i64 0] 121)).heap[W.heap.size]? = some (.cells #[.int .i64 0, .int .i64 0, .int .i64 0] 121) := heap_alloc_new W _
 have Z1 := lH z1
 clear a A1 CR e16 hl hll hT hx hs sz z1
 go_enter Tryz.func66, Tryz.ntmps66
 go_upto_region 7 with (first
  | (go_at_call 64; rw [E16.out]; refine CRH.out.mono ?_; rintro e w2 ⟨A2, m2, c2, rfl, o2, t2, y2⟩
     have hm2 := o2.len
     rw [HLL.out] at hm2
     subst hm2
     have T2' := lH (t2.less (E' := fun k => E k \/ k = W.heap.size) (fun k hk => .inl hk))
     have Y2 := lH y2
     have z2 := (y2.block _ (by simp) (fun h => h (.inr rfl))).trans Z1.out
     have Z2 := lH z2
     have CP := lH (parse_any A2 l 16 c2 w2 o2.has o2.caps.1 o2.caps.2 (by omega) (by omega))
     clear o2 t2 y2 z2)
  | (go_at_call 101; refine CP.out.mono ?_; rintro e w3 ⟨rfl, b3⟩
     rw [HX.out]
     have B3 := lH b3
     clear b3)
  | (refine wpList_store_row8 rfl 121 (.tmp 8) (.tmp 28) rfl w3.heap.size x.cells.toArray rfl rfl 121 _ (heap_alloc_new w3 _) infoEnt rfl (ent_ones _) ?_))
 generalize hW4 : World.setRow _ _ _ = w4
 have b34 : Below w3.heap.size w3 w4 := by rw [<- hW4]; exact below_setRow ((Below.refl _ _).alloc (Nat.le_refl _) _) (Nat.le_refl _) _
 have z4 : w4.heap[w3.heap.size]? = some (.cells x.cells.toArray 121 (0, 0)) := by rw [<- hW4]; exact setRow_heap _ _ _ _ 121 _ (heap_alloc_new w3 _)
 have LD4 := lH (load_ent (Y := w4) (b := w3.heap.size) (o := 0) (e := x) (fun j y hy => by rw [Nat.zero_add, cell_of_row _ _ _ _ _ _ z4]; simpa using hy))
 have b24 : Below w2.heap.size w2 w4 := B3.out.trans (b34.mono B3.out.size)
 have BB := lH b24
 have b14 := b34
 obtain ⟨gm, hgm⟩ : ∃ gm, w3.heap.size = gm := ⟨_, rfl⟩
 have GM : Hid (W.heap.size < gm) := lH (by have := B3.out.size; have := Y2.out.size; simp at this; omega)
 have Z4 := lH z4
 rw [hgm] at LD4 Z4
 simp only [hgm]
 clear hW4 b34 z4 b24 b14
 have FIN : Hid (∀ w5, Below w4.heap.size w4 w5 -> w5.heap[W.heap.size]? = some (.cells #[.int .i64 0, .int .i64 0, .int .i64 0] 121) /\ w5.heap[gm]? = some (.cells x.cells.toArray 121 (0, 0)) /\ RetE Z w0 W g gd gp gt n V r q c F C E x 0 (.returned (.tuple #[.agg x.cells.toArray, .int .i64 0])) (w5.setRow W.heap.size x.cells.toArray)) := lH (fun w5 b5 => by
  have b25 : Below w2.heap.size w2 w5 := BB.out.trans (b5.mono BB.out.size)
  have y5 : Only (fun k => k = W.heap.size) w2 (w5.setRow W.heap.size x.cells.toArray) := (Only.of_below b25 (Nat.le_refl _)).setRow (S := fun k => k = W.heap.size) rfl _
  have hz2 := (Array.getElem?_eq_some_iff.1 Z2.out).1
  refine ⟨(b25.block _ hz2).trans Z2.out, (b5.block _ (Array.getElem?_eq_some_iff.1 Z4.out).1).trans Z4.out, rfl, T2'.out.add (E' := E) (y5.mono (fun k _ hk => .inl (.inr hk))) (fun k hk => .inl (.inl hk)), ?_⟩
  have q1 : Only (fun k => ¬ E k) W w2 := by
   have := (Only.refl (fun k => ¬ (E k \/ k = W.heap.size)) W).alloc (.cells #[.int .i64 0, .int .i64 0, .int .i64 0] 121)
   exact (this.trans Y2.out).mono (fun k hk h he => h (.inl he))
  exact q1.trans (y5.mono (fun k _ hk he => by have := hltE.out k he; omega)))
 go_wp2_with (first
  | (refine wpList_load8 rfl 121 (.tmp 8) rfl ⟨gm, 0, none⟩ rfl _ LD4.out ?_)
  | (go_at_call 85; refine (CE.out _).mono ?_; rintro e w5 ⟨rfl, b5⟩
     obtain ⟨p1, p2, p3⟩ := FIN.out w5 b5
     have P1 := lH p1
     have P3 := lH p3
     have LD5 := lH (load_ent (Y := w5) (b := gm) (o := 0) (e := x) (fun j y hy => by rw [Nat.zero_add, cell_of_row _ _ _ _ _ _ p2]; simpa using hy))
     clear b5 p1 p2 p3)
  | (refine wpList_load8 rfl 121 (.tmp 8) rfl ⟨gm, 0, none⟩ rfl _ LD5.out ?_)
  | (refine wpList_store_row8 rfl 121 (.tmp 4) (.tmp 33) rfl W.heap.size x.cells.toArray rfl rfl 121 _ P1.out infoEnt rfl (ent_ones _) ?_))
 refine bodyPost_ret (v := .tuple #[.agg x.cells.toArray, .int .i64 0]) ?_ (by rfl) P3.out
 exact results_ent (p := 4) (u := 5) rfl _ _ W.heap.size x (by rfl) (setRow_heap _ _ _ _ 121 _ P1.out)
theorem pload_zero (a : T3 Z w0 W g gd gp gt n V r q c F C E) (hV : V <= 1073000000) (k : Nat) (hk : k < 64) (hs : (TE F k).s = 0) :
 Calls Tryz.prog 66 #[.pointer (some ⟨gt, 0, none⟩), .int .i64 (k : Int)] W (RetE Z w0 W g gd gp gt n V r q c F C E .z 1) := by
 have sz := a.sz
 have A1 := a.alloc (.cells #[.int .i64 0, .int .i64 0, .int .i64 0] 121)
 have CR := pread_any A1 hV 2 (16 * k) 16 (by omega) (by omega) (by omega) (fun d hd => by omega)
 rw [show ((2 : Nat) : Int) = 2 from rfl, show ((16 : Nat) : Int) = 16 from rfl] at CR
 have CRH := lH CR
 have e16 : (16 : Int) * (k : Int) = ((16 * k : Nat) : Int) := by omega
 have E16 := lH e16
 have hk16 : (16 : Int) * (k : Int) <= 1008 := by omega
 obtain ⟨l, hl⟩ : ∃ l, rd F 2 (16 * k) 16 = l := ⟨_, rfl⟩
 have hll : l.length = 16 := by rw [<- hl, rd_len]
 have hT : TE F k = ent l := by unfold TE; rw [hl]
 rw [hl] at CRH
 rw [hT] at hs
 obtain ⟨x, hx⟩ : ∃ x, ent l = x := ⟨_, rfl⟩
 rw [hx] at hs
 have HX := lH hx
 have HLL := lH hll
 have CE := lH (fun W => exists_any x W false (by simpa using hs))
 have hltE : Hid (∀ k, E k -> k < W.heap.size) := lH (fun k hk => (a.lt k hk).2)
 have z1 : (W.alloc (.cells #[.int .i64 0, .int .i64 0, .int .i64 0] 121)).heap[W.heap.size]? = some (.cells #[.int .i64 0, .int .i64 0, .int .i64 0] 121) := heap_alloc_new W _
 have Z1 := lH z1
 clear a A1 CR e16 hl hll hT hx hs sz z1
 go_enter Tryz.func66, Tryz.ntmps66
 go_upto_region 7 with (first
  | (go_at_call 64; rw [E16.out]; refine CRH.out.mono ?_; rintro e w2 ⟨A2, m2, c2, rfl, o2, t2, y2⟩
     have hm2 := o2.len
     rw [HLL.out] at hm2
     subst hm2
     have T2' := lH (t2.less (E' := fun k => E k \/ k = W.heap.size) (fun k hk => .inl hk))
     have Y2 := lH y2
     have z2 := (y2.block _ (by simp) (fun h => h (.inr rfl))).trans Z1.out
     have Z2 := lH z2
     have CP := lH (parse_any A2 l 16 c2 w2 o2.has o2.caps.1 o2.caps.2 (by omega) (by omega))
     clear o2 t2 y2 z2)
  | (go_at_call 101; refine CP.out.mono ?_; rintro e w3 ⟨rfl, b3⟩
     rw [HX.out]
     have B3 := lH b3
     clear b3)
  | (refine wpList_store_row8 rfl 121 (.tmp 8) (.tmp 28) rfl w3.heap.size x.cells.toArray rfl rfl 121 _ (heap_alloc_new w3 _) infoEnt rfl (ent_ones _) ?_))
 generalize hW4 : World.setRow _ _ _ = w4
 have b34 : Below w3.heap.size w3 w4 := by rw [<- hW4]; exact below_setRow ((Below.refl _ _).alloc (Nat.le_refl _) _) (Nat.le_refl _) _
 have z4 : w4.heap[w3.heap.size]? = some (.cells x.cells.toArray 121 (0, 0)) := by rw [<- hW4]; exact setRow_heap _ _ _ _ 121 _ (heap_alloc_new w3 _)
 have LD4 := lH (load_ent (Y := w4) (b := w3.heap.size) (o := 0) (e := x) (fun j y hy => by rw [Nat.zero_add, cell_of_row _ _ _ _ _ _ z4]; simpa using hy))
 have b24 : Below w2.heap.size w2 w4 := B3.out.trans (b34.mono B3.out.size)
 have BB := lH b24
 have b14 := b34
 obtain ⟨gm, hgm⟩ : ∃ gm, w3.heap.size = gm := ⟨_, rfl⟩
 have GM : Hid (W.heap.size < gm) := lH (by have := B3.out.size; have := Y2.out.size; simp at this; omega)
 have Z4 := lH z4
 rw [hgm] at LD4 Z4
 simp only [hgm]
 clear hW4 b34 z4 b24 b14
 have FIN : Hid (∀ w5, Below w4.heap.size w4 w5 -> w5.heap[W.heap.size]? = some (.cells #[.int .i64 0, .int .i64 0, .int .i64 0] 121) /\ w5.heap[gm]? = some (.cells x.cells.toArray 121 (0, 0)) /\ RetE Z w0 W g gd gp gt n V r q c F C E .z 1 (.returned (.tuple #[.agg Ent.z.cells.toArray, .int .i64 1])) (w5.setRow W.heap.size Ent.z.cells.toArray)) := lH (fun w5 b5 => by
  have b25 : Below w2.heap.size w2 w5 := BB.out.trans (b5.mono BB.out.size)
  have y5 : Only (fun k => k = W.heap.size) w2 (w5.setRow W.heap.size Ent.z.cells.toArray) := (Only.of_below b25 (Nat.le_refl _)).setRow (S := fun k => k = W.heap.size) rfl _
  have hz2 := (Array.getElem?_eq_some_iff.1 Z2.out).1
  refine ⟨(b25.block _ hz2).trans Z2.out, (b5.block _ (Array.getElem?_eq_some_iff.1 Z4.out).1).trans Z4.out, rfl, T2'.out.add (E' := E) (y5.mono (fun k _ hk => .inl (.inr hk))) (fun k hk => .inl (.inl hk)), ?_⟩
  have q1 : Only (fun k => ¬ E k) W w2 := by
   have := (Only.refl (fun k => ¬ (E k \/ k = W.heap.size)) W).alloc (.cells #[.int .i64 0, .int .i64 0, .int .i64 0] 121)
   exact (this.trans Y2.out).mono (fun k hk h he => h (.inl he))
  exact q1.trans (y5.mono (fun k _ hk he => by have := hltE.out k he; omega)))
 go_wp2_with (first
  | (refine wpList_load8 rfl 121 (.tmp 8) rfl ⟨gm, 0, none⟩ rfl _ LD4.out ?_)
  | (go_at_call 85; refine (CE.out _).mono ?_; rintro e w5 ⟨rfl, b5⟩
     obtain ⟨p1, p2, p3⟩ := FIN.out w5 b5
     have P1 := lH p1
     have P3 := lH p3
     have LD5 := lH (load_ent (Y := w5) (b := gm) (o := 0) (e := x) (fun j y hy => by rw [Nat.zero_add, cell_of_row _ _ _ _ _ _ p2]; simpa using hy))
     clear b5 p1 p2 p3)
  | (refine wpList_load8 rfl 121 (.tmp 8) rfl ⟨gm, 0, none⟩ rfl _ LD5.out ?_)
  | (refine wpList_store_row8 rfl 121 (.tmp 4) (.tmp 32) rfl W.heap.size Ent.z.cells.toArray rfl rfl 121 _ P1.out infoEnt rfl (ent_ones _) ?_))
 refine bodyPost_ret (v := .tuple #[.agg Ent.z.cells.toArray, .int .i64 1]) ?_ (by rfl) P3.out
 exact results_ent (p := 4) (u := 5) rfl _ _ W.heap.size .z (by rfl) (setRow_heap _ _ _ _ 121 _ P1.out)
theorem pload_out (a : T3 Z w0 W g gd gp gt n V r q c F C E) (k : Int) (hb : Bd k) (hk : k < 0 \/ 64 <= k) :
 Calls Tryz.prog 66 #[.pointer (some ⟨gt, 0, none⟩), .int .i64 k] W (RetE Z w0 W g gd gp gt n V r q c F C E .z 1) := by
 have A0 := lH a
 have z1 : (W.alloc (.cells #[.int .i64 0, .int .i64 0, .int .i64 0] 121)).heap[W.heap.size]? = some (.cells #[.int .i64 0, .int .i64 0, .int .i64 0] 121) := heap_alloc_new W _
 have Z1 := lH z1
 have P3 : Hid (RetE Z w0 W g gd gp gt n V r q c F C E .z 1 (.returned (.tuple #[.agg Ent.z.cells.toArray, .int .i64 1])) ((W.alloc (.cells #[.int .i64 0, .int .i64 0, .int .i64 0] 121)).setRow W.heap.size Ent.z.cells.toArray)) := lH (by
  have b := below_setRow ((Below.refl W.heap.size W).alloc (Nat.le_refl _) (.cells #[.int .i64 0, .int .i64 0, .int .i64 0] 121)) (Nat.le_refl _) Ent.z.cells.toArray
  exact ⟨rfl, a.add (Only.of_below b (Nat.le_refl _)) (fun k hk => .inl hk), Only.of_below b (Nat.le_refl _)⟩)
 obtain ⟨b1, b2⟩ := hb
 clear a z1
 by_cases h0 : k < 0
 · clear hk
   go_enter Tryz.func66, Tryz.ntmps66
   go_wp2_with (first
    | (refine wpList_store_row8 rfl 121 (.tmp 4) (.tmp 15) rfl W.heap.size Ent.z.cells.toArray rfl rfl 121 _ Z1.out infoEnt rfl (ent_ones _) ?_))
   refine bodyPost_ret (v := .tuple #[.agg Ent.z.cells.toArray, .int .i64 1]) ?_ (by rfl) P3.out
   exact results_ent (p := 4) (u := 5) rfl _ _ W.heap.size .z (by rfl) (setRow_heap _ _ _ _ 121 _ Z1.out)
 · have h64 : 64 <= k := by omega
   clear hk
   go_enter Tryz.func66, Tryz.ntmps66
   go_wp2_with (first
    | (refine wpList_store_row8 rfl 121 (.tmp 4) (.tmp 15) rfl W.heap.size Ent.z.cells.toArray rfl rfl 121 _ Z1.out infoEnt rfl (ent_ones _) ?_))
   refine bodyPost_ret (v := .tuple #[.agg Ent.z.cells.toArray, .int .i64 1]) ?_ (by rfl) P3.out
   exact results_ent (p := 4) (u := 5) rfl _ _ W.heap.size .z (by rfl) (setRow_heap _ _ _ _ 121 _ Z1.out)
end
def entN (e : Ent) : Nat -> Nat
 | 0 => e.s
 | 1 => e.u
 | 2 => e.v
 | _ => 0
def entB (e : Ent) : Nat -> List UInt8
 | 0 => []
 | k + 1 => entB e k ++ be 4 (entN e k)
theorem entB_len (e : Ent) : ∀ k, (entB e k).length = 4 * k
 | 0 => rfl
 | k + 1 => by rw [entB, List.length_append, entB_len e k, be_length]; omega
structure Ent.Ok (e : Ent) : Prop where
 s : e.s < 4294967296
 u : e.u < 4294967296
 v : e.v < 4294967296
theorem Ent.Ok.n {e : Ent} (h : e.Ok) (k : Nat) : entN e k < 4294967296 := by
 match k with
 | 0 => exact h.s
 | 1 => exact h.u
 | 2 => exact h.v
 | k + 3 => show 0 < _; omega
theorem idx4 (a b c d : Value) (w : World) : (Instr.index 165 (.agg #[a, b, c, d]) (.int .i64 0)).run Tryz.prog w = .ok a w /\ (Instr.index 165 (.agg #[a, b, c, d]) (.int .i64 1)).run Tryz.prog w = .ok b w /\ (Instr.index 165 (.agg #[a, b, c, d]) (.int .i64 2)).run Tryz.prog w = .ok c w /\ (Instr.index 165 (.agg #[a, b, c, d]) (.int .i64 3)).run Tryz.prog w = .ok d w :=
 ⟨by kernel_rfl, by kernel_rfl, by kernel_rfl, by kernel_rfl⟩
theorem wpList_index8 {P : Program} {ops : Array Oper} {rest : List Oper} {o : Oper} {a : Act} {w : World} {Q : Exit -> Act -> World -> Prop} (hg : o.guard = none) (T : TypeId) (x y : Operand) (ho : o.op = .index T x y) (xv yv v : Value) (hx : a.eval x = xv) (hy : a.eval y = yv)
 (hr : (Instr.index T xv yv).run P w = .ok v w) (h : wpList P ops Q rest (a.put o.dst v) w) : wpList P ops Q (o :: rest) a w := by
 refine wpList_plain hg fun K hK => ?_
 unfold Oper.wp execOp
 simp only [ho, hx, hy, Sem.run_bind, hr, Result.andThen_ok, Sem.run_pure]
 exact hK _ _ h
section
variable {Z : DK} {w0 W W' : World} {g gd gp gt n V r q c : Nat} {F C : Nat -> List UInt8} {E E' : Nat -> Prop}
theorem pstore_any (a : T3 Z w0 W g gd gp gt n V r q c F C E) (hV : V <= 1073000000) (hq : q + 16 < 1073741824) (hc : c < 40) (x : Ent) (hx : x.Ok) (k : Nat) (hk : k < 64) :
 Calls Tryz.prog 63 #[.agg x.cells.toArray, .pointer (some ⟨gt, 0, none⟩), .int .i64 (k : Int)] W fun en W' => en = .returned (.int .i64 0) /\ T3 Z w0 W' g gd gp gt n V r (q + 16) (c + 1) (wrF F 2 (16 * k) (entB x 4) 16) C E /\ Only (fun k => ¬ E k) W W' := by
 have A0 := lH a
 have SZ := lH a.sz
 have e16 : (16 : Int) * (k : Int) = ((16 * k : Nat) : Int) := by omega
 have E16 := lH e16
 have hk16 : (16 : Int) * (k : Int) <= 1008 := by omega
 have HX := lH hx
 obtain ⟨s, u, v⟩ := x
 unfold Ent.cells
 simp only
 have b0 := hx.s
 have b1 := hx.u
 have b2 := hx.v
 simp only at b0 b1 b2
 clear a hx e16
 go_enter Tryz.func63, Tryz.ntmps63
 go_wp2_with fail
 go_loopw [7, 19] (fun bb i wr => ∃ (j : Nat) (A1 : Option Addr) (n1 c1 : Nat), j <= 4 /\ i = .int .i64 (j : Int) /\ bb = .slice A1 n1 c1 /\ OwnB wr W.heap.size (.slice A1 n1 c1) (entB ⟨s, u, v⟩ j) /\ Below W.heap.size W wr) (fun _ i _ => 4 - (Go.RowKit.intOf i).toNat)
 case atStart => exact ⟨0, none, 0, 0, by omega, rfl, rfl, OwnB.nil _ _, by first | exact Below.refl _ _ | exact (Below.refl _ _).alloc (Nat.le_refl _) _⟩
 case round =>
  obtain ⟨j, A1, n1, c1, hj, rfl, rfl, qo, qb⟩ := hrel
  have hn1 := qo.len
  rw [entB_len] at hn1
  have QO := lH qo
  have QB := lH qb
  by_cases hlt : j < 4
  · have CP : Hid (∀ k v', k = j -> v' = entN ⟨s, u, v⟩ j -> Calls Tryz.prog 95 #[.slice A1 n1 c1, .int .u64 (v' : Int), .int .i64 4] wr (RetBE wr (entB ⟨s, u, v⟩ (j + 1)) 0)) := lH (fun k v' _ hv' => by
     have := put_ok A1 (entB ⟨s, u, v⟩ j) n1 c1 v' 4 wr qo.has (by omega) (by have := HX.out.n j; omega) (by omega) (by omega) (by have := HX.out.n j; have : (256 : Nat) ^ 4 = 4294967296 := rfl; omega)
     rw [hv'] at this ⊢
     exact this)
    clear qo qb hn1
    have hj4 : j = 0 \/ j = 1 \/ j = 2 \/ j = 3 := by omega
    clear hlt hj
    rcases hj4 with rfl | rfl | rfl | rfl
    · rw [show ((0 : Nat) : Int) = 0 from rfl]
      go_wp2_with (first
       | (refine wpList_index8 rfl 165 (.tmp 18) (.tmp 19) rfl _ _ _ rfl rfl (idx4 _ _ _ _ _).1 ?_)
       | (go_at_call 95; refine (CP.out 0 s rfl rfl).mono ?_; rintro e w3 ⟨A3, n3, c3, rfl, o3, b3⟩
          have O3 := lH o3
          have B3 := lH b3
          clear o3 b3))
      go_roundw
      case rel => exact ⟨0 + 1, A3, n3, c3, by omega, rfl, rfl, O3.out.less (by have := QB.out.size; omega), QB.out.trans (B3.out.mono QB.out.size)⟩
      case measure => simp [Go.RowKit.intOf]
    · rw [show ((1 : Nat) : Int) = 1 from rfl]
      go_wp2_with (first
       | (refine wpList_index8 rfl 165 (.tmp 18) (.tmp 19) rfl _ _ _ rfl rfl (idx4 _ _ _ _ _).2.1 ?_)
       | (go_at_call 95; refine (CP.out 1 u rfl rfl).mono ?_; rintro e w3 ⟨A3, n3, c3, rfl, o3, b3⟩
          have O3 := lH o3
          have B3 := lH b3
          clear o3 b3))
      go_roundw
      case rel => exact ⟨1 + 1, A3, n3, c3, by omega, rfl, rfl, O3.out.less (by have := QB.out.size; omega), QB.out.trans (B3.out.mono QB.out.size)⟩
      case measure => simp [Go.RowKit.intOf]
    · rw [show ((2 : Nat) : Int) = 2 from rfl]
      go_wp2_with (first
       | (refine wpList_index8 rfl 165 (.tmp 18) (.tmp 19) rfl _ _ _ rfl rfl (idx4 _ _ _ _ _).2.2.1 ?_)
       | (go_at_call 95; refine (CP.out 2 v rfl rfl).mono ?_; rintro e w3 ⟨A3, n3, c3, rfl, o3, b3⟩
          have O3 := lH o3
          have B3 := lH b3
          clear o3 b3))
      go_roundw
      case rel => exact ⟨2 + 1, A3, n3, c3, by omega, rfl, rfl, O3.out.less (by have := QB.out.size; omega), QB.out.trans (B3.out.mono QB.out.size)⟩
      case measure => simp [Go.RowKit.intOf]
    · rw [show ((3 : Nat) : Int) = 3 from rfl]
      go_wp2_with (first
       | (refine wpList_index8 rfl 165 (.tmp 18) (.tmp 19) rfl _ _ _ rfl rfl (idx4 _ _ _ _ _).2.2.2 ?_)
       | (go_at_call 95; refine (CP.out 3 0 rfl rfl).mono ?_; rintro e w3 ⟨A3, n3, c3, rfl, o3, b3⟩
          have O3 := lH o3
          have B3 := lH b3
          clear o3 b3))
      go_roundw
      case rel => exact ⟨3 + 1, A3, n3, c3, by omega, rfl, rfl, O3.out.less (by have := QB.out.size; omega), QB.out.trans (B3.out.mono QB.out.size)⟩
      case measure => simp [Go.RowKit.intOf]
  · obtain rfl : j = 4 := by omega
    clear hlt hj
    have hb := qb
    obtain rfl : n1 = 16 := by omega
    have T1 := A0.out.add (E' := fun k => E k \/ InB A1 k) (Only.of_below hb (Nat.le_refl _)) (fun k hk => hk.imp id (fun h => by
     obtain ⟨a, ha, rfl⟩ := h
     exact qo.lt _ (by rw [ha]; rfl)))
    have hcnt : (16 * k + 16 + 511) / 512 - 16 * k / 512 = 1 := by omega
    have CW := pkwrite_any T1 hV 2 (16 * k) 16 (by omega) (by omega) (by omega) hq (fun d hd => by have := SZ.out.1; omega) (by omega) A1 c1 qo.has qo.caps.1 qo.caps.2 (fun a ha _ => .inr ⟨a, ha, rfl⟩)
    rw [hcnt, show ((2 : Nat) : Int) = 2 from rfl] at CW
    have CWH := lH CW
    clear T1 CW hcnt qo qb hb hn1
    go_wp2_with (first
     | (go_at_call 96; rw [E16.out]; refine CWH.out.mono ?_; rintro e w5 ⟨rfl, t5, y5⟩
        have T5 := lH t5
        have Y5 := lH y5
        clear t5 y5))
    go_ret
    exact ⟨rfl, T5.out.less (fun k hk => .inl hk), (Only.of_below QB.out (Nat.le_refl _)).trans (Y5.out.mono (fun k _ hk he => hk (.inl he)))⟩
end
def TabC (F : Nat -> List UInt8) (k : Nat) (cur : Array Value) : Prop := cur.size = 192 /\ ∀ j, j < k -> ∀ i, i < 3 -> cur[3 * j + i]? = (TE F j).cells[i]?
theorem zc_tab : (Tryz.zeroCells204).size = 192 := by kernel_rfl
theorem rd_part (F : Nat -> List UInt8) (st at_ N a m : Nat) (h : a + m <= N) : ((rd F st at_ N).drop a).take m = rd F st (at_ + a) m := by
 apply List.ext_getElem?
 intro i
 rw [List.getElem?_take]
 by_cases hi : i < m
 · rw [if_pos hi, List.getElem?_drop, rd_at _ _ _ (by omega), rd_at _ _ _ hi, Nat.add_assoc]
 · rw [if_neg hi, List.getElem?_eq_none (by rw [rd_len]; omega)]
theorem fld_take {l : List UInt8} {m k : Nat} (h : 4 * k + 4 <= m) : fld (l.take m) k = fld l k := by
 unfold fld
 rw [List.drop_take, List.take_take, Nat.min_eq_left (by omega)]
theorem ent_take {l : List UInt8} {m : Nat} (h : 12 <= m) : ent (l.take m) = ent l := by
 unfold ent
 rw [fld_take (by omega), fld_take (by omega), fld_take (by omega)]
theorem TE_drop (F : Nat -> List UInt8) {k : Nat} (hk : k < 64) : ent ((rd F 2 0 1024).drop (16 * k)) = TE F k := by
 rw [<- ent_take (m := 16) (by omega), rd_part F 2 0 1024 (16 * k) 16 (by omega), Nat.zero_add]
 rfl
theorem step_storeP {P : Program} {ops : Array Oper} {o : Oper} {a : Act} {w : World} {K : Act -> World -> Prop} {Q : Exit -> Act -> World -> Prop} {F : Prop} (hw : Region.wanted o (yielded ops a.tmps) = true) (ty : TypeId) (x y : Operand) (ho : o.op = .store ty x y)
 (g off : Nat) (cells : Array Value) (hx : a.eval x = .pointer (some ⟨g, off, none⟩)) (hy : a.eval y = .agg cells) (t : TypeId) (cur : Array Value) (hg : w.heap[g]? = some (.cells cur t (0, 0))) (hi : (P.info? ty).map (·.size) = some cells.size)
 (hfit : off + cells.size <= cur.size) (h1 : ∀ v ∈ cells.toList, v.oneCell' = true) (h : K (a.put o.dst undef) (w.setRow g (cur.toList.take off ++ cells.toList ++ cur.toList.drop (off + cells.size)).toArray)) :
 if Region.wanted o (yielded ops a.tmps) = true then Oper.wp P o a w K Q else F := by
 rw [if_pos hw]
 exact wp_store_part ty x y ho g off cells hx hy t cur hg hi hfit h1 h
theorem TabC.put {F : Nat -> List UInt8} {k : Nat} {cur : Array Value} (h : TabC F k cur) (hk : k < 64) : TabC F (k + 1) (cur.toList.take (k * 3) ++ (TE F k).cells.toArray.toList ++ cur.toList.drop (k * 3 + (TE F k).cells.toArray.size)).toArray := by
 obtain ⟨h1, h2⟩ := h
 have hcl : cur.toList.length = 192 := by rw [Array.length_toList, h1]
 have h3 : (TE F k).cells.toArray.size = 3 := rfl
 have ht : (cur.toList.take (k * 3)).length = k * 3 := by rw [List.length_take]; omega
 have hc3 : (TE F k).cells.toArray.toList.length = 3 := rfl
 refine ⟨by simp only [List.size_toArray, List.length_append, ht, hc3, List.length_drop, hcl, h3]; omega, fun j hj i hi => ?_⟩
 rw [List.getElem?_toArray, List.append_assoc]
 by_cases hjk : j < k
 · rw [List.getElem?_append_left (by omega), List.getElem?_take, if_pos (by omega)]
   have := h2 j hjk i hi
   simpa using this
 · obtain rfl : j = k := by omega
   rw [List.getElem?_append_right (by omega), ht, List.getElem?_append_left (by rw [hc3]; omega), show 3 * j + i - j * 3 = i by omega]
section
variable {Z : DK} {w0 W W' : World} {g gd gp gt n V r q c : Nat} {F C : Nat -> List UInt8} {E E' : Nat -> Prop}
theorem ltab_any (a : T3 Z w0 W g gd gp gt n V r q c F C E) (hV : V <= 1073000000) :
 Calls Tryz.prog 82 #[.pointer (some ⟨gt, 0, none⟩)] W fun en W' => ∃ gl cur, en = .returned (.tuple #[.pointer (some ⟨gl, 0, none⟩), .int .i64 0]) /\ W'.heap[gl]? = some (.cells cur 204 (0, 0)) /\ TabC F 64 cur /\ T3 Z w0 W' g gd gp gt n V r q c F C (fun k => E k \/ k = gl) /\ W.heap.size <= gl /\ Only (fun k => ¬ E k) W W' := by
 have sz := a.sz
 have CR := pread_any a hV 2 0 1024 (by omega) (by omega) (by omega) (fun d hd => by omega)
 rw [show ((2 : Nat) : Int) = 2 from rfl, show ((1024 : Nat) : Int) = 1024 from rfl, show ((0 : Nat) : Int) = 0 from rfl] at CR
 have CRH := lH CR
 have hltE : Hid (∀ k, E k -> k < W.heap.size) := lH (fun k hk => (a.lt k hk).2)
 clear a CR sz
 go_enter Tryz.func82, Tryz.ntmps82
 go_upto_region 5 with (first
  | (go_at_call 64; refine CRH.out.mono ?_; rintro e w1 ⟨A1, m1, c1, rfl, o1, t1, y1⟩
     have hm1 := o1.len
     rw [rd_len] at hm1
     subst hm1
     have O1 := lH o1
     have T1 := lH t1
     have Y1 := lH y1
     have hc1 := o1.caps
     clear o1 t1 y1))
 obtain ⟨gl, hgl⟩ : ∃ gl, w1.heap.size = gl := ⟨_, rfl⟩
 obtain ⟨w2, hw2⟩ : ∃ w2, w1.alloc (.cells Tryz.zeroCells204 204) = w2 := ⟨_, rfl⟩
 have hb12 : Below w1.heap.size w1 w2 := by rw [<- hw2]; exact (Below.refl _ _).alloc (Nat.le_refl _) _
 have hz2 : w2.heap[gl]? = some (.cells Tryz.zeroCells204 204) := by rw [<- hw2, <- hgl]; exact heap_alloc_new w1 _
 rw [hw2, hgl]
 have hlt1 := O1.out.lt
 have LG : Hid (∀ k, (Value.slice A1 1024 c1).ownBlock = some k -> k < gl) := lH (fun k hk => by have := (hlt1 k hk).2; omega)
 have O2 := lH (O1.out.below hb12)
 have T2 : Hid (T3 Z w0 w2 g gd gp gt n V r q c F C (fun k => E k \/ k = gl)) := lH ((T1.out.less (E' := E) (fun k hk => .inl hk)).add (Only.of_below hb12 (Nat.le_refl _)) (fun k hk => hk.imp id (fun h => by subst h; exact ⟨by omega, (Array.getElem?_eq_some_iff.1 hz2).1⟩)))
 have Y2 : Hid (Only (fun k => ¬ E k) W w2) := lH (Y1.out.trans (Only.of_below hb12 (Nat.le_refl _)))
 have GLW : Hid (W.heap.size <= gl) := lH (by have := Y1.out.size; omega)
 have HZ := lH hz2
 clear hw2 hgl hb12 hz2 hlt1 T1 Y1 O1
 go_wp2_with fail
 go_loopw [7, 17] (fun x i wr => ∃ (k : Nat) (cur : Array Value), k <= 64 /\ i = .int .i64 (k : Int) /\ wr.heap[gl]? = some (.cells cur 204 (0, 0)) /\ TabC F k cur /\ Only (fun j => j = gl) w2 wr) (fun _ i _ => 64 - (Go.RowKit.intOf i).toNat)
 case atStart => exact ⟨0, _, by omega, rfl, HZ.out, ⟨zc_tab, fun j hj => by omega⟩, Only.refl _ _⟩
 case round =>
  obtain ⟨k, cur, hk, rfl, qh, qc, qy⟩ := hrel
  have QH := lH qh
  have QC := lH qc
  have QY := lH qy
  clear qh qc qy
  by_cases hlt : k < 64
  · obtain ⟨ga, oa, rfl, hga, _⟩ := O2.out.has.2 (by omega)
    have ho := O2.out.only QY.out (fun j hj h => by have := LG.out j hj; omega)
    have hw := ho.has.window (k := 16 * k) (s := 1024 - 16 * k) (by omega) (A' := some ⟨ga, oa + 16 * k, none⟩) (m := 1024 - 16 * k) rfl (fun _ => rfl)
    rw [List.take_of_length_le (by rw [List.length_drop, rd_len]; exact Nat.le_refl _)] at hw
    obtain ⟨kk, hkk⟩ : ∃ kk, 16 * k = kk := ⟨_, rfl⟩
    have TEH : Hid (ent ((rd F 2 0 1024).drop kk) = TE F k) := lH (by rw [<- hkk]; exact TE_drop F hlt)
    have e16 : (16 : Int) * (k : Int) = (kk : Int) := by omega
    have ewk : IntKind.i64.wrap (kk : Int) = (kk : Int) := by rw [IntKind.wrap_i64]; omega
    have hkI : (kk : Int) <= 1024 := by omega
    have hkk1 : kk <= 1008 := by omega
    have hkc : ¬ c1 = kk := by omega
    have hkc2 : kk <= c1 := by omega
    rw [hkk] at hw
    have CP := lH (parse_any (some ⟨ga, oa + kk, none⟩) ((rd F 2 0 1024).drop kk) (1024 - kk) (c1 - kk) wr.drew (show HasB wr.drew wr.drew.heap.size _ _ _ from hw) (by omega) (by omega) (by omega) (by omega))
    clear ho hw hkk
    go_wp2_with fail
    refine wp_region_held_drew (S := fun _ => True) (by kernel_rfl) trivial (fun hHeld => ?_)
    refine tk9 (i := 0) (h := ?_)
    try simp only [aP,aN,aS,aZ,aC]
    refine tk9 (i := 1) (h := ?_)
    try simp only [aP,aN,aS,aZ,aC]
    refine tk9 (i := 2) (h := ?_)
    try simp only [aP,aN,aS,aZ,aC]
    refine tk9 (i := 3) (h := ?_)
    try simp only [aP,aN,aS,aZ,aC]
    refine tk9 (i := 4) (h := ?_)
    try simp only [aP,aN,aS,aZ,aC]
    refine tk9 (i := 5) (h := ?_)
    try simp only [aP,aN,aS,aZ,aC]
    refine tk9 (i := 7) (h := ?_)
    try simp only [aP,aN,aS,aZ,aC]
    refine rd9 (i := 6) (h := fun K hK => ?_)
    go_simp
    refine CP.out.mono ?_
    rintro e w3 ⟨rfl, b3⟩
    rw [TEH.out]
    have hl3 := (b3.block gl (Array.getElem?_eq_some_iff.1 QH.out).1).trans QH.out
    have B3 := lH b3
    have L3 := lH hl3
    have hS6 := trivial
    clear b3 hl3
    refine hK _ _ hS6 (fun hH6 => ?_)
    clear hK K
    try simp only [aP,aN,aS,aZ,aC]
    refine tk9 (i := 8) (h := ?_)
    try simp only [aP,aN,aS,aZ,aC]
    refine rd9 (i := 9) (h := fun K hK => ?_)
    refine step_storeP (by rfl) 121 (.tmp 28) (.tmp 26) rfl gl (k * 3) (TE F k).cells.toArray rfl rfl 204 cur L3.out infoEnt (by rw [QC.out.1]; show k * 3 + 3 <= 192; omega) (ent_ones _) ?_
    refine hK _ _ trivial (fun hHx => ?_)
    clear hK K
    try simp only [aP,aN,aS,aZ,aC]
    refine wpAnyH_done (by kernel_rfl) ?_ _
    go_wp2_with fail
    go_roundw
    case rel => exact ⟨k + 1, _, by omega, by go_num, setRow_heap _ _ _ _ 204 _ L3.out, (by simpa [List.append_assoc] using QC.out.put hlt), (QY.out.trans ((Only.refl (fun j => j = gl) wr).drew.trans (Only.of_below B3.out (Nat.le_refl _)))).setRow rfl _⟩
    case measure => simp [Go.RowKit.intOf]; omega
  · obtain rfl : k = 64 := by omega
    go_wp2_with fail
    go_ret2
    exact ⟨gl, cur, rfl, QH.out, QC.out, T2.out.add (QY.out.mono (fun j _ hj => .inl (.inr hj))) (fun j hj => .inl hj), GLW.out, Y2.out.trans (QY.out.mono (fun j _ hj he => by have := hltE.out j he; have := GLW.out; omega))⟩
end
theorem TabC.load {F : Nat -> List UInt8} {cur : Array Value} {gl : Nat} {W : World} {t : TypeId} (h : TabC F 64 cur) (hg : W.heap[gl]? = some (.cells cur t (0, 0))) {k : Nat} (hk : k < 64) : (loadVar 121 ⟨gl, k * 3, none⟩).run Tryz.prog W = .ok (.agg (TE F k).cells.toArray) W :=
 load_ent (fun j u hu => by
  have hj : j < 3 := by have := (List.getElem?_eq_some_iff.1 hu).1; simpa [Ent.cells] using this
  rw [cell_of_row _ _ _ _ _ _ hg, show k * 3 + j = 3 * k + j by omega, h.2 k hk j hj]; exact hu)
def IsRoom (F : Nat -> List UInt8) (sz but : Int) (k : Nat) : Prop := (k : Int) ≠ but /\ (TE F k).s ≠ 0 /\ ((TE F k).u : Int) <= 8192 - sz
def Room (F : Nat -> List UInt8) (sz but x : Int) (f : Bool) : Prop := (∃ k : Nat, k < 64 /\ x = (k : Int) /\ f = true /\ IsRoom F sz but k /\ ∀ j, j < k -> ¬ IsRoom F sz but j) \/ (x = 0 /\ f = false /\ ∀ j, j < 64 -> ¬ IsRoom F sz but j)
def Miss (F : Nat -> List UInt8) (x : Int) (f : Bool) : Prop := (∃ k : Nat, k < 64 /\ x = (k : Int) /\ f = true /\ (TE F k).s = 0 /\ ∀ j, j < k -> (TE F j).s ≠ 0) \/ (x = 0 /\ f = false /\ ∀ j, j < 64 -> (TE F j).s ≠ 0)
section
variable {W W' : World} {F : Nat -> List UInt8} {gl : Nat} {cur : Array Value}
theorem missing_any (hg : W.heap[gl]? = some (.cells cur 204 (0, 0))) (hc : TabC F 64 cur) :
 Calls Tryz.prog 47 #[.pointer (some ⟨gl, 0, none⟩)] W fun e w' => ∃ x f, e = .returned (.tuple #[.int .i64 x, .bool f]) /\ Miss F x f /\ Below W.heap.size W w' := by
 have HG := lH hg
 have HC := lH hc
 clear hg hc
 go_enter Tryz.func47, Tryz.ntmps47
 go_wp2_with fail
 go_loopw [4, 5, 8] (fun _ _ i wr => ∃ k : Nat, k <= 64 /\ i = .int .i64 (k : Int) /\ (∀ j, j < k -> (TE F j).s ≠ 0) /\ Below W.heap.size W wr) (fun _ _ i _ => 64 - (Go.RowKit.intOf i).toNat)
 case atStart => exact ⟨0, by omega, rfl, fun j hj => by omega, Below.refl _ _⟩
 case round =>
  obtain ⟨k, hk, rfl, qa, qb⟩ := hrel
  have QA := lH qa
  have QB := lH qb
  clear qa qb
  by_cases hlt : k < 64
  · have hg1 := (QB.out.block gl (Array.getElem?_eq_some_iff.1 HG.out).1).trans HG.out
    have G1 := lH hg1
    have KL := lH hlt
    clear hg1
    go_upto_region 3 with fail
    refine wp_region_held_drew (S := fun Y => Y.heap[gl]? = some (.cells cur 204 (0, 0))) (by kernel_rfl) (show wr.drew.heap[gl]? = _ from G1.out) (fun hHeld => ?_)
    refine tk9 (i := 0) (h := ?_)
    try simp only [aP,aN,aS,aZ,aC]
    refine tk9 (i := 1) (h := ?_)
    try simp only [aP,aN,aS,aZ,aC]
    refine tk9 (i := 2) (h := ?_)
    try simp only [aP,aN,aS,aZ,aC]
    refine tk9 (i := 3) (hy := (yieldsIf_loadG (by rfl) 121 (.tmp 12) rfl ⟨gl, k * 3, none⟩ rfl (.agg (TE F k).cells.toArray) (fun Y hY => HC.out.load hY KL.out))) (h := ?_)
    try simp only [aP,aN,aS,aZ,aC]
    refine rd9 (i := 4) (h := fun K hK => ?_)
    go_simp
    have hS4 : (wr.drew.alloc (.cells #[.int .i64 0, .int .i64 0, .int .i64 0] 121)).heap[gl]? = some (.cells cur 204 (0, 0)) := (((Below.refl wr.heap.size wr.drew).alloc (Nat.le_refl _) _).block gl (Array.getElem?_eq_some_iff.1 G1.out).1).trans hHeld
    refine hK _ _ hS4 (fun hH4 => ?_)
    clear hK K
    try simp only [aP,aN,aS,aZ,aC]
    refine rd9 (i := 5) (h := fun K hK => ?_)
    go_simp
    have hS5 := hS4
    refine hK _ _ hS5 (fun hH5 => ?_)
    clear hK K
    try simp only [aP,aN,aS,aZ,aC]
    refine rd9 (i := 6) (h := fun K hK => ?_)
    refine step_store_row8 (by rfl) 121 (.tmp 5) (.tmp 13) rfl wr.heap.size (TE F k).cells.toArray rfl rfl 121 _ (show (wr.alloc _).heap[wr.heap.size]? = _ from heap_alloc_new wr _) infoEnt rfl (ent_ones _) ?_
    have b6 : Below wr.heap.size wr (((wr.alloc (.cells #[.int .i64 0, .int .i64 0, .int .i64 0] 121)).drew).setRow wr.heap.size (TE F k).cells.toArray) := below_setRow (((Below.refl _ _).alloc (Nat.le_refl _) _).drew) (Nat.le_refl _) _
    have z6 : (((wr.alloc (.cells #[.int .i64 0, .int .i64 0, .int .i64 0] 121)).drew).setRow wr.heap.size (TE F k).cells.toArray).heap[wr.heap.size]? = some (.cells (TE F k).cells.toArray 121 (0, 0)) := setRow_heap _ _ _ _ 121 _ (show (wr.alloc _).heap[wr.heap.size]? = _ from heap_alloc_new wr _)
    have hS6 := (b6.block gl (Array.getElem?_eq_some_iff.1 G1.out).1).trans G1.out
    refine hK _ _ hS6 (fun hHx => ?_)
    clear hK K
    try simp only [aP,aN,aS,aZ,aC]
    refine wpAnyH_done (by kernel_rfl) ?_ _
    obtain ⟨w6, hw6⟩ : ∃ w6, (((wr.alloc (.cells #[.int .i64 0, .int .i64 0, .int .i64 0] 121)).drew).setRow wr.heap.size (TE F k).cells.toArray) = w6 := ⟨_, rfl⟩
    rw [hw6] at b6 z6 hS6
    try rw [hw6]
    obtain ⟨gm, hgm⟩ : ∃ gm, wr.heap.size = gm := ⟨_, rfl⟩
    rw [hgm] at z6
    simp only [hgm]
    have B6 := lH (QB.out.trans (b6.mono QB.out.size))
    have LDM := lH (load_ent (Y := w6) (b := gm) (o := 0) (e := TE F k) (fun j y hy => by rw [Nat.zero_add, cell_of_row _ _ _ _ _ _ z6]; simpa using hy))
    have Z6 := lH z6
    clear b6 z6 hw6 hgm hS4 hS5 hS6 hHeld
    obtain ⟨x, hx⟩ : ∃ x, TE F k = x := ⟨_, rfl⟩
    have HX := lH hx
    rw [hx] at LDM
    simp only [hx]
    clear hx
    by_cases hs : x.s = 0
    · have CE := lH (fun Y => exists_any x Y false (by simp [hs]))
      have HS := lH hs
      clear hs
      go_wp2_with (first
       | (refine wpList_load8 rfl 121 (.tmp 5) rfl ⟨gm, 0, none⟩ rfl _ LDM.out ?_)
       | (go_at_call 85; refine (CE.out _).mono ?_; rintro e w7 ⟨rfl, b7⟩
          have B7 := lH (B6.out.trans (b7.mono B6.out.size))
          clear b7))
      go_ret2
      exact ⟨(k : Int), true, rfl, .inl ⟨k, KL.out, rfl, rfl, by rw [HX.out]; exact HS.out, QA.out⟩, B7.out⟩
    · have CE := lH (fun Y => exists_any x Y true (by simpa using hs))
      have HS := lH hs
      clear hs
      go_wp2_with (first
       | (refine wpList_load8 rfl 121 (.tmp 5) rfl ⟨gm, 0, none⟩ rfl _ LDM.out ?_)
       | (go_at_call 85; refine (CE.out _).mono ?_; rintro e w7 ⟨rfl, b7⟩
          have B7 := lH (B6.out.trans (b7.mono B6.out.size))
          clear b7))
      go_roundw
      case rel => exact ⟨k + 1, by omega, by go_num, fun j hj => by
       by_cases hjk : j = k
       · rw [hjk, HX.out]; exact HS.out
       · exact QA.out j (by omega), B7.out⟩
      case measure => simp [Go.RowKit.intOf]; omega
  · obtain rfl : k = 64 := by omega
    go_wp2_with fail
    go_ret2
    exact ⟨0, false, rfl, .inr ⟨rfl, rfl, QA.out⟩, QB.out⟩
end
theorem wpList_loadG {P : Program} {ops : Array Oper} {rest : List Oper} {o : Oper} {a : Act} {w : World} {Q : Exit -> Act -> World -> Prop} (hw : Region.wanted o (yielded ops a.tmps) = true) (ty : TypeId) (x : Operand) (ho : o.op = .load ty x)
 (ad : Addr) (hx : a.eval x = .pointer (some ad)) (v : Value) (hl : (loadVar ty ad).run P w = .ok v w) (h : wpList P ops Q rest (a.put o.dst v) w) : wpList P ops Q (o :: rest) a w := by
 refine wpList_step fun K hK => ?_
 rw [if_pos hw]
 unfold Oper.wp execOp
 simp only [ho, hx, Instr.loadAt, Instr.sureAddr, Sem.run_bind, Sem.run_pure, Result.andThen_ok, hl]
 exact hK _ _ h
theorem wrapI {t : Int} (h1 : -9223372036854775808 <= t) (h2 : t <= 9223372036854775807) : IntKind.i64.wrap t = t := by
 rw [IntKind.wrap_i64]
 omega
section
variable {W W' : World} {F : Nat -> List UInt8} {gl : Nat} {cur : Array Value}
theorem withRoom_any (hg : W.heap[gl]? = some (.cells cur 204 (0, 0))) (hc : TabC F 64 cur) {sz but : Int} (hs0 : 0 <= sz) (hs1 : sz <= 1099511627776) :
 Calls Tryz.prog 45 #[.pointer (some ⟨gl, 0, none⟩), .int .i64 sz, .int .i64 but] W fun e w' => ∃ x f, e = .returned (.tuple #[.int .i64 x, .bool f]) /\ Room F sz but x f /\ Below W.heap.size W w' := by
 have HG := lH hg
 have HC := lH hc
 have S0 := lH hs0
 have S1 := lH hs1
 clear hg hc
 obtain ⟨rm, hrm⟩ : ∃ rm : Int, IntKind.i64.wrap (8192 - sz) = rm := ⟨_, rfl⟩
 have RM : rm = 8192 - sz := by rw [<- hrm]; exact wrapI (by omega) (by omega)
 have RMH := lH RM
 clear RM
 go_enter Tryz.func45, Tryz.ntmps45
 go_wp2_with fail
 go_loopw [6, 7, 12] (fun _ _ i wr => ∃ k : Nat, k <= 64 /\ i = .int .i64 (k : Int) /\ (∀ j, j < k -> ¬ IsRoom F sz but j) /\ Below W.heap.size W wr) (fun _ _ i _ => 64 - (Go.RowKit.intOf i).toNat)
 case atStart => exact ⟨0, by omega, rfl, fun j hj => by omega, Below.refl _ _⟩
 case round =>
  obtain ⟨k, hk, rfl, qa, qb⟩ := hrel
  have QA := lH qa
  have QB := lH qb
  clear qa qb
  by_cases hlt : k < 64
  · have hg1 := (QB.out.block gl (Array.getElem?_eq_some_iff.1 HG.out).1).trans HG.out
    have G1 := lH hg1
    have KL := lH hlt
    clear hg1
    go_upto_region 3 with fail
    refine wp_region_held_drew (S := fun Y => Y.heap[gl]? = some (.cells cur 204 (0, 0))) (by kernel_rfl) (show wr.drew.heap[gl]? = _ from G1.out) (fun hHeld => ?_)
    refine tk9 (i := 0) (h := ?_)
    try simp only [aP,aN,aS,aZ,aC]
    refine tk9 (i := 1) (h := ?_)
    try simp only [aP,aN,aS,aZ,aC]
    refine tk9 (i := 2) (h := ?_)
    try simp only [aP,aN,aS,aZ,aC]
    refine tk9 (i := 3) (hy := (yieldsIf_loadG (by rfl) 121 (.tmp 16) rfl ⟨gl, k * 3, none⟩ rfl (.agg (TE F k).cells.toArray) (fun Y hY => HC.out.load hY KL.out))) (h := ?_)
    try simp only [aP,aN,aS,aZ,aC]
    refine rd9 (i := 4) (h := fun K hK => ?_)
    go_simp
    have hS4 : (wr.drew.alloc (.cells #[.int .i64 0, .int .i64 0, .int .i64 0] 121)).heap[gl]? = some (.cells cur 204 (0, 0)) := (((Below.refl wr.heap.size wr.drew).alloc (Nat.le_refl _) _).block gl (Array.getElem?_eq_some_iff.1 G1.out).1).trans hHeld
    refine hK _ _ hS4 (fun hH4 => ?_)
    clear hK K
    try simp only [aP,aN,aS,aZ,aC]
    refine rd9 (i := 5) (h := fun K hK => ?_)
    go_simp
    have hS5 := hS4
    refine hK _ _ hS5 (fun hH5 => ?_)
    clear hK K
    try simp only [aP,aN,aS,aZ,aC]
    refine rd9 (i := 6) (h := fun K hK => ?_)
    refine step_store_row8 (by rfl) 121 (.tmp 9) (.tmp 17) rfl wr.heap.size (TE F k).cells.toArray rfl rfl 121 _ (show (wr.alloc _).heap[wr.heap.size]? = _ from heap_alloc_new wr _) infoEnt rfl (ent_ones _) ?_
    have b6 : Below wr.heap.size wr (((wr.alloc (.cells #[.int .i64 0, .int .i64 0, .int .i64 0] 121)).drew).setRow wr.heap.size (TE F k).cells.toArray) := below_setRow (((Below.refl _ _).alloc (Nat.le_refl _) _).drew) (Nat.le_refl _) _
    have z6 : (((wr.alloc (.cells #[.int .i64 0, .int .i64 0, .int .i64 0] 121)).drew).setRow wr.heap.size (TE F k).cells.toArray).heap[wr.heap.size]? = some (.cells (TE F k).cells.toArray 121 (0, 0)) := setRow_heap _ _ _ _ 121 _ (show (wr.alloc _).heap[wr.heap.size]? = _ from heap_alloc_new wr _)
    have hS6 := (b6.block gl (Array.getElem?_eq_some_iff.1 G1.out).1).trans G1.out
    refine hK _ _ hS6 (fun hHx => ?_)
    clear hK K
    try simp only [aP,aN,aS,aZ,aC]
    refine wpAnyH_done (by kernel_rfl) ?_ _
    obtain ⟨w6, hw6⟩ : ∃ w6, (((wr.alloc (.cells #[.int .i64 0, .int .i64 0, .int .i64 0] 121)).drew).setRow wr.heap.size (TE F k).cells.toArray) = w6 := ⟨_, rfl⟩
    rw [hw6] at b6 z6 hS6
    try rw [hw6]
    obtain ⟨gm, hgm⟩ : ∃ gm, wr.heap.size = gm := ⟨_, rfl⟩
    rw [hgm] at z6
    simp only [hgm]
    have B6 := lH (QB.out.trans (b6.mono QB.out.size))
    have LDM := lH (load_ent (Y := w6) (b := gm) (o := 0) (e := TE F k) (fun j y hy => by rw [Nat.zero_add, cell_of_row _ _ _ _ _ _ z6]; simpa using hy))
    have Z6 := lH z6
    have lu6 : ∀ Y, Below w6.heap.size w6 Y -> (loadVar 3 ⟨gm, 1, none⟩).run Tryz.prog Y = .ok (.int .i64 ((TE F k).u : Int)) Y := fun Y hY => load_intc (cell_of_row _ _ _ _ _ _ ((hY.block gm (Array.getElem?_eq_some_iff.1 z6).1).trans z6))
    have LU6 := lH lu6
    clear lu6
    have LU := lH (LU6.out w6 (Below.refl _ _))
    clear b6 z6 hw6 hgm hS4 hS5 hS6 hHeld
    by_cases hkb : (k : Int) = but
    · have NR := lH (show ¬ IsRoom F sz but k from fun h => h.1 hkb)
      subst hkb
      go_wp2_with fail
      go_roundw
      case rel => exact ⟨k + 1, by omega, by go_num, fun j hj => by
       by_cases hjk : j = k
       · rw [hjk]; exact NR.out
       · exact QA.out j (by omega), B6.out⟩
      case measure => simp [Go.RowKit.intOf]; omega
    have KB := lH hkb
    have kb : ((k : Int) != but) = true := by simpa using hkb
    by_cases hs : (TE F k).s = 0
    · have CE := lH (fun Y => exists_any (TE F k) Y false (by simp [hs]))
      have NR := lH (show ¬ IsRoom F sz but k from fun h => h.2.1 hs)
      clear hs
      go_wp2_with (first
       | (refine wpList_loadG (by rfl) 121 (.tmp 9) rfl ⟨gm, 0, none⟩ rfl _ LDM.out ?_)
       | (refine wpList_loadG (by rfl) 3 (.tmp 26) rfl ⟨gm, 1, none⟩ rfl _ LU.out ?_)
       | (go_at_call 85; refine (CE.out _).mono ?_; rintro e w7 ⟨rfl, b7⟩
          have B7 := lH (B6.out.trans (b7.mono B6.out.size))
          have LU := lH (LU6.out w7 b7)
          clear b7))
      go_roundw
      case rel => exact ⟨k + 1, by omega, by go_num, fun j hj => by
       by_cases hjk : j = k
       · rw [hjk]; exact NR.out
       · exact QA.out j (by omega), B7.out⟩
      case measure => simp [Go.RowKit.intOf]; omega
    have CE := lH (fun Y => exists_any (TE F k) Y true (by simpa using hs))
    have HS := lH hs
    clear hs
    by_cases hu : ((TE F k).u : Int) <= 8192 - sz
    · have HU := lH hu
      have hu' : ((TE F k).u : Int) <= rm := by rw [RMH.out]; exact hu
      clear hu
      go_wp2_with (first
       | (refine wpList_loadG (by rfl) 121 (.tmp 9) rfl ⟨gm, 0, none⟩ rfl _ LDM.out ?_)
       | (refine wpList_loadG (by rfl) 3 (.tmp 26) rfl ⟨gm, 1, none⟩ rfl _ LU.out ?_)
       | (go_at_call 85; refine (CE.out _).mono ?_; rintro e w7 ⟨rfl, b7⟩
          have B7 := lH (B6.out.trans (b7.mono B6.out.size))
          have LU := lH (LU6.out w7 b7)
          clear b7))
      go_ret2
      exact ⟨(k : Int), true, rfl, .inl ⟨k, KL.out, rfl, rfl, ⟨KB.out, HS.out, HU.out⟩, QA.out⟩, B7.out⟩
    · have NR := lH (show ¬ IsRoom F sz but k from fun h => hu h.2.2)
      have hu' : ¬ ((TE F k).u : Int) <= rm := by rw [RMH.out]; exact hu
      clear hu
      go_wp2_with (first
       | (refine wpList_loadG (by rfl) 121 (.tmp 9) rfl ⟨gm, 0, none⟩ rfl _ LDM.out ?_)
       | (refine wpList_loadG (by rfl) 3 (.tmp 26) rfl ⟨gm, 1, none⟩ rfl _ LU.out ?_)
       | (go_at_call 85; refine (CE.out _).mono ?_; rintro e w7 ⟨rfl, b7⟩
          have B7 := lH (B6.out.trans (b7.mono B6.out.size))
          have LU := lH (LU6.out w7 b7)
          clear b7))
      go_roundw
      case rel => exact ⟨k + 1, by omega, by go_num, fun j hj => by
       by_cases hjk : j = k
       · rw [hjk]; exact NR.out
       · exact QA.out j (by omega), B7.out⟩
      case measure => simp [Go.RowKit.intOf]; omega
  · obtain rfl : k = 64 := by omega
    go_wp2_with fail
    go_ret2
    exact ⟨0, false, rfl, .inr ⟨rfl, rfl, QA.out⟩, QB.out⟩
end
section
variable {Z : DK} {w0 W W' : World} {g gd gp gt n V r q c : Nat} {F C : Nat -> List UInt8} {E E' : Nat -> Prop}
theorem T3.up1 (a : T3 Z w0 W g gd gp gt n V r q c F C E) (h : Below W.heap.size W W') : T3 Z w0 W' g gd gp gt n V r q c F C E := a.add (Only.of_below h (Nat.le_refl _)) (fun _ hk => .inl hk)
theorem release_any (a : T3 Z w0 W g gd gp gt n V r q c F C E) (hV : V <= 1073000000) (hq : q + 17 < 1073741824) (hc : c + 1 < 40) (x : Ent) (k : Nat) (hk : k < 64) (hx : IsExt (F 1) (n - 2 - r) (x.s : Int) 16) :
 Calls Tryz.prog 62 #[.agg x.cells.toArray, .pointer (some ⟨gt, 0, none⟩), .int .i64 (k : Int)] W fun en W' => en = .returned (.int .i64 0) /\ T3 Z w0 W' g gd gp gt n V r (q + 17) (c + 2) (wrF (upd F 1 (flipL (F 1) x.s 16)) 2 (16 * k) (entB .z 4) 16) C E /\ Only (fun k => ¬ E k) W W' := by
 obtain ⟨s, u, v⟩ := x
 unfold Ent.cells
 simp only at hx ⊢
 have CF : Hid (∀ W1, Below W.heap.size W W1 -> Calls Tryz.prog 94 #[.pointer (some ⟨gt, 0, none⟩), .int .i64 (s : Int), .int .i64 16] W1 fun en W' => en = .returned (.int .i64 0) /\ T3 Z w0 W' g gd gp gt n V r (q + 1) (c + 1) (upd F 1 (flipL (F 1) s 16)) C E /\ Only (fun k => ¬ E k) W W') := lH (fun W1 hb =>
  ((a.up1 hb).free hV (by omega) (by omega) s 16 (by omega) (by omega) hx).mono (fun en W2 h => ⟨h.1, h.2.1, (Only.of_below hb (Nat.le_refl _)).trans h.2.2⟩))
 have CS : Hid (∀ W1, T3 Z w0 W1 g gd gp gt n V r (q + 1) (c + 1) (upd F 1 (flipL (F 1) s 16)) C E -> Calls Tryz.prog 63 #[.agg #[.int .i64 0, .int .i64 0, .int .i64 0], .pointer (some ⟨gt, 0, none⟩), .int .i64 (k : Int)] W1 fun en W' => en = .returned (.int .i64 0) /\ T3 Z w0 W' g gd gp gt n V r (q + 1 + 16) (c + 1 + 1) (wrF (upd F 1 (flipL (F 1) s 16)) 2 (16 * k) (entB .z 4) 16) C E /\ Only (fun k => ¬ E k) W1 W') := lH (fun W1 t =>
  pstore_any t hV (by omega) (by omega) .z ⟨by decide, by decide, by decide⟩ k hk)
 clear a hx
 go_enter Tryz.func62, Tryz.ntmps62
 go_wp2_with (first
  | (go_at_call 94; refine (CF.out _ ((Below.refl _ _).alloc (Nat.le_refl _) _)).mono ?_; rintro e w3 ⟨rfl, t3, y3⟩
     have T3_ := lH t3
     have Y3 := lH y3
     clear t3 y3)
  | (go_at_call 63; refine (CS.out _ T3_.out).mono ?_; rintro e w4 ⟨rfl, t4, y4⟩
     have T4 := lH t4
     have Y4 := lH y4
     clear t4 y4))
 go_ret
 exact ⟨rfl, T4.out, Y3.out.trans Y4.out⟩
end
def bx (x : Ent) : Obj := .cells x.cells.toArray 121 (0, 0)
theorem row_set {w : World} {b : Nat} {s u v : Nat} (h : w.heap[b]? = some (bx ⟨s, u, v⟩)) {y1 y2 : Int} {u2 v2 : Nat} (h1 : y1 = (u2 : Int)) (h2 : y2 = (v2 : Int)) : ((w.setCell ⟨b, 1, none⟩ (.int .i64 y1)).setCell ⟨b, 2, none⟩ (.int .i64 y2)).heap[b]? = some (bx ⟨s, u2, v2⟩) := by
 subst h1 h2
 have e1 := heap_setCell_same w b 1 _ _ (.int .i64 (u2 : Int)) h
 exact heap_setCell_same _ b 2 _ _ (.int .i64 (v2 : Int)) e1
theorem ld_set {w : World} {b : Nat} {x : Ent} (h : w.heap[b]? = some (bx x)) : (loadVar 121 ⟨b, 0, none⟩).run Tryz.prog w = .ok (.agg x.cells.toArray) w :=
 load_ent (o := 0) (fun j y hy => by rw [Nat.zero_add, cell_of_row _ _ _ _ _ _ h]; simpa using hy)
section
variable {Z : DK} {w0 W W' : World} {g gd gp gt n V r q c : Nat} {F C : Nat -> List UInt8} {E E' : Nat -> Prop}
theorem append_yes (a : T3 Z w0 W g gd gp gt n V r q c F C E) (hV : V <= 1073000000) (N : Nat) (hq : q + N + 16 < 1073741824) (x : Ent) (hs : x.s ≠ 0) (k : Nat) (hk : k < 64) (A : Option Addr) (cA : Nat) (b : List UInt8) (hA : HasB W W.heap.size A N b) (hcA : N <= cA) (hcB : cA <= maxLen) (hE : ∀ a, A = some a -> 0 < N -> E a.block)
 (hu : x.u + N <= 8192) (hv : x.v <= x.u) (hx16 : x.s + 16 <= n - 2 - r) (hc : c + ((x.u + N + 511) / 512 - x.u / 512) < 40) :
 Calls Tryz.prog 84 #[.agg x.cells.toArray, .pointer (some ⟨gt, 0, none⟩), .int .i64 (k : Int), .slice A N cA] W fun en W' => en = .returned (.int .i64 0) /\ T3 Z w0 W' g gd gp gt n V r (q + N + 16) (c + ((x.u + N + 511) / 512 - x.u / 512) + 1) (wrF (wrF F x.s x.u b N) 2 (16 * k) (entB ⟨x.s, x.u + N, x.v + N⟩ 4) 16) C E /\ Only (fun k => ¬ E k) W W' := by
 have sz := a.sz
 have CE := lH (fun Y => exists_any x Y true (by simpa using hs))
 obtain ⟨s, u, v⟩ := x
 simp only at hs hu hv hx16 hc CE ⊢
 obtain ⟨B, hB⟩ : ∃ B, W.heap.size = B := ⟨_, rfl⟩
 obtain ⟨cn, hcn⟩ : ∃ cn, (u + N + 511) / 512 - u / 512 = cn := ⟨_, rfl⟩
 rw [hcn] at hc ⊢
 have hltE : ∀ k, E k -> k < B := fun k hk => by have := (a.lt k hk).2; omega
 have CW : Hid (∀ w1, Below (W.alloc (bx ⟨s, u, v⟩)).heap.size (W.alloc (bx ⟨s, u, v⟩)) w1 -> w1.heap[B]? = some (bx ⟨s, u, v⟩) /\ Calls Tryz.prog 96 #[.pointer (some ⟨gt, 0, none⟩), .int .i64 (s : Int), .int .i64 (u : Int), .slice A N cA] w1 fun e w5 => e = .returned (.int .i64 0) /\ T3 Z w0 w5 g gd gp gt n V r (q + N) (c + cn) (wrF F s u b N) C (fun k => E k \/ k = B) /\ w5.heap[B]? = some (bx ⟨s, u, v⟩) /\ Only (fun k => ¬ E k) W w5) := lH (fun w1 hb1 => by
  have z0 : (W.alloc (bx ⟨s, u, v⟩)).heap[B]? = some (bx ⟨s, u, v⟩) := by rw [<- hB]; exact heap_alloc_new W _
  have z1 := (hb1.block _ (Array.getElem?_eq_some_iff.1 z0).1).trans z0
  have hlt1 := (Array.getElem?_eq_some_iff.1 z1).1
  have hb : Below W.heap.size W w1 := by
   have := (Below.refl W.heap.size W).alloc (Nat.le_refl _) (bx ⟨s, u, v⟩)
   exact this.trans (hb1.mono this.size)
  have T1 := a.add (E' := fun k => E k \/ k = B) (Only.of_below hb (Nat.le_refl _)) (fun k hk => hk.imp id (fun e => ⟨by omega, by omega⟩))
  refine ⟨z1, ?_⟩
  have := pkwrite_any T1 hV s u N (by omega) (by omega) (by omega) (by omega) (fun d hd => by omega) (by omega) A cA (hA.on hb) hcA hcB (fun a ha h0 => .inl (hE a ha h0))
  rw [hcn] at this
  refine this.mono ?_
  rintro e w5 ⟨he, t5, y5⟩
  exact ⟨he, t5, (y5.block B hlt1 (fun h => h (.inr rfl))).trans z1, (Only.of_below hb (Nat.le_refl _)).trans (y5.mono (fun k _ hk he => hk (.inl he)))⟩)
 have CS : Hid (∀ w5, T3 Z w0 w5 g gd gp gt n V r (q + N) (c + cn) (wrF F s u b N) C (fun k => E k \/ k = B) -> Only (fun k => ¬ E k) W w5 -> ∀ (y1 y2 : Value), Calls Tryz.prog 63 #[.agg (Ent.mk s (u + N) (v + N)).cells.toArray, .pointer (some ⟨gt, 0, none⟩), .int .i64 (k : Int)] ((w5.setCell ⟨B, 1, none⟩ y1).setCell ⟨B, 2, none⟩ y2) fun en W' => en = .returned (.int .i64 0) /\ T3 Z w0 W' g gd gp gt n V r (q + N + 16) (c + cn + 1) (wrF (wrF F s u b N) 2 (16 * k) (entB ⟨s, u + N, v + N⟩ 4) 16) C E /\ Only (fun k => ¬ E k) W W') := lH (fun w5 t5 y5 y1 y2 => by
  have yB : Only (fun k => k = B) w5 ((w5.setCell ⟨B, 1, none⟩ y1).setCell ⟨B, 2, none⟩ y2) := ((Only.refl _ w5).cell1 1 _).cell1 2 _
  have t6 := t5.add (E' := fun k => E k \/ k = B) (yB.mono (fun k _ hk => .inl (.inr hk))) (fun k hk => .inl hk)
  refine (pstore_any t6 hV (by omega) (by omega) ⟨s, u + N, v + N⟩ ⟨by show s < _; omega, by show u + N < _; omega, by show v + N < _; omega⟩ k hk).mono ?_
  rintro en w7 ⟨he, t7, y7⟩
  exact ⟨he, t7.less (fun k hk => .inl hk), (y5.trans (yB.mono (fun k _ hk he => by have := hltE k he; omega))).trans (y7.mono (fun k _ hk he => hk (.inl he)))⟩)
 have hs1 : s <= 4294967296 := by omega
 have hN : N <= 8192 := by omega
 have hu8 : u + N <= 8192 := hu
 have hv8 : v + N <= 8192 := by omega
 have hA0 := lH hA
 have z0 : Hid ((W.alloc (bx ⟨s, u, v⟩)).heap[B]? = some (bx ⟨s, u, v⟩)) := lH (by rw [<- hB]; exact heap_alloc_new W _)
 clear a hA hE hx16 hc sz hcn hltE hs
 unfold bx Ent.cells at *
 simp only at *
 go_enter Tryz.func84, Tryz.ntmps84
 go_wp2_with (first
  | (refine wpList_load8 rfl 121 (.tmp 4) rfl ⟨B, 0, none⟩ rfl _ (LD.out _ _ (by omega) (by omega)) ?_)
  | (go_at_call 85; refine (CE.out _).mono ?_; rintro e w1 ⟨rfl, b1⟩
     obtain ⟨z1, cw⟩ := CW.out w1 b1
     have Z1 := lH z1
     have CWH := lH cw
     have k0 := cell_of_row w1 B 0 _ _ _ z1
     have k1 := cell_of_row w1 B 1 _ _ _ z1
     clear z1 cw b1)
  | (go_at_call 96; refine CWH.out.mono ?_; rintro e w5 ⟨rfl, t5, z5, y5⟩
     have TS := lH (CS.out w5 t5 y5)
     have LD := lH (fun (y1 y2 : Int) (h1 : y1 = ((u + N : Nat) : Int)) (h2 : y2 = ((v + N : Nat) : Int)) => ld_set (row_set z5 h1 h2))
     have j1 := cell_of_row w5 B 1 _ _ _ z5
     have j2 := cell_of_row w5 B 2 _ _ _ z5
     have f1 := frozen_of_row w5 B 1 _ _ z5
     have f2 := frozen_of_row w5 B 2 _ _ z5
     clear t5 z5 y5)
  | (go_at_call 63; refine (TS.out _ _).mono ?_; rintro e w7 ⟨rfl, t7, y7⟩
     have T7 := lH t7
     have Y7 := lH y7
     clear t7 y7))
 go_ret
 exact ⟨rfl, T7.out, Y7.out⟩
end
theorem row_set0 {w : World} {b : Nat} {s u v : Nat} (h : w.heap[b]? = some (bx ⟨s, u, v⟩)) (s2 : Nat) : (w.setCell ⟨b, 0, none⟩ (.int .i64 (s2 : Int))).heap[b]? = some (bx ⟨s2, u, v⟩) := heap_setCell_same w b 0 _ _ (.int .i64 (s2 : Int)) h
section
variable {Z : DK} {w0 W W' : World} {g gd gp gt n V r q c : Nat} {F C : Nat -> List UInt8} {E E' : Nat -> Prop}
theorem T3.take_gap (a : T3 Z w0 W g gd gp gt n V r q c F C E) (hV : V <= 1073000000) (hq : q < 1073741824) (hc : c < 40) (k s : Nat) (h1 : 1 <= k) (h2 : k <= 64) (sg : IsGap (F 1) (n - 2 - r) k s) :
 Calls Tryz.prog 25 #[.pointer (some ⟨gt, 0, none⟩), .int .i64 (k : Int)] W fun en W' => en = .returned (.tuple #[.int .i64 (s : Int), .int .i64 0]) /\ T3 Z w0 W' g gd gp gt n V r (q + 1) (c + 1) (upd F 1 (flipL (F 1) s k)) C E /\ Only (fun k => ¬ E k) W W' := by
 obtain ⟨D, q', h, t, hd⟩ := a
 have sp := t.sp (.inr (by omega))
 refine (take_yes (XS.st _ _ _ _) sp hV (by omega) k s h1 h2 sg).mono ?_
 rintro en W' ⟨rfl, s', y⟩
 exact ⟨rfl, T3.of_sp (by omega) hd s', y⟩
theorem append_full {P : World -> Prop} (k : Nat) (N : Nat) (A : Option Addr) (cA : Nat) (h : ∀ w1, Below W.heap.size W w1 -> Calls Tryz.prog 25 #[.pointer (some ⟨gt, 0, none⟩), .int .i64 16] w1 fun en W' => en = .returned (.tuple #[.int .i64 0, .int .i64 7]) /\ P W') :
 Calls Tryz.prog 84 #[.agg Ent.z.cells.toArray, .pointer (some ⟨gt, 0, none⟩), .int .i64 (k : Int), .slice A N cA] W fun en W' => en = .returned (.int .i64 7) /\ P W' := by
 have CE := lH (fun Y => exists_any .z Y false (by simp [Ent.z]))
 have H := lH h
 have W1 : Hid (∀ w1 o, Below (W.alloc o).heap.size (W.alloc o) w1 -> Below W.heap.size W w1) := lH (fun w1 o hb1 => by
  have := (Below.refl W.heap.size W).alloc (Nat.le_refl _) o
  exact this.trans (hb1.mono this.size))
 clear h
 unfold Ent.z Ent.cells at *
 simp only at *
 go_enter Tryz.func84, Tryz.ntmps84
 go_wp2_with (first
  | (go_at_call 85; refine (CE.out _).mono ?_; rintro e w1 ⟨rfl, b1⟩
     have B1 := lH (W1.out _ _ b1)
     clear b1)
  | (go_at_call 25; refine (H.out _ B1.out).mono ?_; rintro e w5 ⟨rfl, p5⟩
     have P5 := lH p5
     clear p5))
 go_ret
 exact ⟨rfl, P5.out⟩
theorem append_new (a : T3 Z w0 W g gd gp gt n V r q c F C E) (hV : V <= 1073000000) (N : Nat) (hq : q + N + 17 < 1073741824) (s : Nat) (hg : IsGap (F 1) (n - 2 - r) 16 s) (k : Nat) (hk : k < 64) (A : Option Addr) (cA : Nat) (b : List UInt8) (hA : HasB W W.heap.size A N b) (hcA : N <= cA) (hcB : cA <= maxLen) (hE : ∀ a, A = some a -> 0 < N -> E a.block)
 (hu : N <= 8192) (hc : c + (N + 511) / 512 + 1 < 40) :
 Calls Tryz.prog 84 #[.agg Ent.z.cells.toArray, .pointer (some ⟨gt, 0, none⟩), .int .i64 (k : Int), .slice A N cA] W fun en W' => en = .returned (.int .i64 0) /\ T3 Z w0 W' g gd gp gt n V r (q + N + 17) (c + (N + 511) / 512 + 2) (wrF (wrF (upd F 1 (flipL (F 1) s 16)) s 0 b N) 2 (16 * k) (entB ⟨s, N, N⟩ 4) 16) C E /\ Only (fun k => ¬ E k) W W' := by
 have sz := a.sz
 have hsg := hg.1
 have CE := lH (fun Y => exists_any .z Y false (by simp [Ent.z]))
 obtain ⟨B, hB⟩ : ∃ B, W.heap.size = B := ⟨_, rfl⟩
 obtain ⟨cn, hcn⟩ : ∃ cn, (N + 511) / 512 = cn := ⟨_, rfl⟩
 obtain ⟨G, hG⟩ : ∃ G, upd F 1 (flipL (F 1) s 16) = G := ⟨_, rfl⟩
 rw [hcn] at hc ⊢
 rw [hG]
 have hltE : ∀ k, E k -> k < B := fun k hk => by have := (a.lt k hk).2; omega
 have CT : Hid (∀ w1, Below (W.alloc (bx ⟨0, 0, 0⟩)).heap.size (W.alloc (bx ⟨0, 0, 0⟩)) w1 -> Calls Tryz.prog 25 #[.pointer (some ⟨gt, 0, none⟩), .int .i64 16] w1 fun e w5 => e = .returned (.tuple #[.int .i64 (s : Int), .int .i64 0]) /\ T3 Z w0 w5 g gd gp gt n V r (q + 1) (c + 1) G C (fun k => E k \/ k = B) /\ w5.heap[B]? = some (bx ⟨0, 0, 0⟩) /\ Only (fun k => ¬ E k) W w5 /\ HasB w5 w5.heap.size A N b) := lH (fun w1 hb1 => by
  have z0 : (W.alloc (bx ⟨0, 0, 0⟩)).heap[B]? = some (bx ⟨0, 0, 0⟩) := by rw [<- hB]; exact heap_alloc_new W _
  have z1 := (hb1.block _ (Array.getElem?_eq_some_iff.1 z0).1).trans z0
  have hlt1 := (Array.getElem?_eq_some_iff.1 z1).1
  have hb : Below W.heap.size W w1 := by
   have := (Below.refl W.heap.size W).alloc (Nat.le_refl _) (bx ⟨0, 0, 0⟩)
   exact this.trans (hb1.mono this.size)
  have T1 := a.add (E' := fun k => E k \/ k = B) (Only.of_below hb (Nat.le_refl _)) (fun k hk => hk.imp id (fun e => ⟨by omega, by omega⟩))
  refine (T1.take_gap hV (by omega) (by omega) 16 s (by omega) (by omega) hg).mono ?_
  rintro e w5 ⟨he, t5, y5⟩
  rw [hG] at t5
  exact ⟨he, t5, (y5.block B hlt1 (fun h => h (.inr rfl))).trans z1, (Only.of_below hb (Nat.le_refl _)).trans (y5.mono (fun k _ hk he => hk (.inl he))), (hA.on hb).keep8 y5 (fun x hx h0 h => h (.inl (hE x hx h0)))⟩)
 have CW : Hid (∀ w5, T3 Z w0 w5 g gd gp gt n V r (q + 1) (c + 1) G C (fun k => E k \/ k = B) -> w5.heap[B]? = some (bx ⟨0, 0, 0⟩) -> Only (fun k => ¬ E k) W w5 -> HasB w5 w5.heap.size A N b -> (w5.setCell ⟨B, 0, none⟩ (.int .i64 (s : Int))).heap[B]? = some (bx ⟨s, 0, 0⟩) /\ Calls Tryz.prog 96 #[.pointer (some ⟨gt, 0, none⟩), .int .i64 (s : Int), .int .i64 0, .slice A N cA] (w5.setCell ⟨B, 0, none⟩ (.int .i64 (s : Int))) fun e w6 => e = .returned (.int .i64 0) /\ T3 Z w0 w6 g gd gp gt n V r (q + 1 + N) (c + 1 + cn) (wrF G s 0 b N) C (fun k => E k \/ k = B) /\ w6.heap[B]? = some (bx ⟨s, 0, 0⟩) /\ Only (fun k => ¬ E k) W w6) := lH (fun w5 t5 z5 y5 hb5 => by
  have yB : Only (fun k => k = B) w5 (w5.setCell ⟨B, 0, none⟩ (.int .i64 (s : Int))) := (Only.refl _ w5).cell1 0 _
  have t6 := t5.add (E' := fun k => E k \/ k = B) (yB.mono (fun k _ hk => .inl (.inr hk))) (fun k hk => .inl hk)
  have z6 := row_set0 z5 s
  have hlt6 := (Array.getElem?_eq_some_iff.1 z6).1
  refine ⟨z6, ?_⟩
  have := pkwrite_any t6 hV s 0 N (by omega) (by omega) (by omega) (by omega) (fun d hd => by omega) (by omega) A cA (hb5.keep8 yB (fun x hx h0 h => by have := hltE _ (hE x hx h0); omega)) hcA hcB (fun a ha h0 => .inl (hE a ha h0))
  rw [show (0 + N + 511) / 512 - 0 / 512 = cn by rw [<- hcn]; simp, show ((0 : Nat) : Int) = 0 from rfl] at this
  refine this.mono ?_
  rintro e w7 ⟨he, t7, y7⟩
  exact ⟨he, t7, (y7.block B hlt6 (fun h => h (.inr rfl))).trans z6, (y5.trans (yB.mono (fun k _ hk he => by have := hltE k he; omega))).trans (y7.mono (fun k _ hk he => hk (.inl he)))⟩)
 have CS : Hid (∀ w5, T3 Z w0 w5 g gd gp gt n V r (q + 1 + N) (c + 1 + cn) (wrF G s 0 b N) C (fun k => E k \/ k = B) -> Only (fun k => ¬ E k) W w5 -> ∀ (y1 y2 : Value), Calls Tryz.prog 63 #[.agg (Ent.mk s N N).cells.toArray, .pointer (some ⟨gt, 0, none⟩), .int .i64 (k : Int)] ((w5.setCell ⟨B, 1, none⟩ y1).setCell ⟨B, 2, none⟩ y2) fun en W' => en = .returned (.int .i64 0) /\ T3 Z w0 W' g gd gp gt n V r (q + N + 17) (c + cn + 2) (wrF (wrF G s 0 b N) 2 (16 * k) (entB ⟨s, N, N⟩ 4) 16) C E /\ Only (fun k => ¬ E k) W W') := lH (fun w5 t5 y5 y1 y2 => by
  have yB : Only (fun k => k = B) w5 ((w5.setCell ⟨B, 1, none⟩ y1).setCell ⟨B, 2, none⟩ y2) := ((Only.refl _ w5).cell1 1 _).cell1 2 _
  have t6 := t5.add (E' := fun k => E k \/ k = B) (yB.mono (fun k _ hk => .inl (.inr hk))) (fun k hk => .inl hk)
  refine (pstore_any t6 hV (by omega) (by omega) ⟨s, N, N⟩ ⟨by show s < _; omega, by show N < _; omega, by show N < _; omega⟩ k hk).mono ?_
  rintro en w7 ⟨he, t7, y7⟩
  exact ⟨he, (t7.less (fun k hk => .inl hk)).more (Nat.le_refl _) (by omega) (by omega), (y5.trans (yB.mono (fun k _ hk he => by have := hltE k he; omega))).trans (y7.mono (fun k _ hk he => hk (.inl he)))⟩)
 have hs1 : s <= 4096 := by omega
 have z0 : Hid ((W.alloc (bx ⟨0, 0, 0⟩)).heap[B]? = some (bx ⟨0, 0, 0⟩)) := lH (by rw [<- hB]; exact heap_alloc_new W _)
 clear a hA hE hc sz hcn hltE hsg hg hG
 unfold bx Ent.z Ent.cells at *
 simp only at *
 go_enter Tryz.func84, Tryz.ntmps84
 go_wp2_with (first
  | (refine wpList_load8 rfl 121 (.tmp 4) rfl ⟨B, 0, none⟩ rfl _ (LD.out _ _ (by omega) (by omega)) ?_)
  | (go_at_call 85; refine (CE.out _).mono ?_; rintro e w1 ⟨rfl, b1⟩
     have TK := lH (CT.out w1 b1)
     clear b1)
  | (go_at_call 25; refine TK.out.mono ?_; rintro e w3 ⟨rfl, t3, z3, y3, h3⟩
     have cw := CW.out w3 t3 z3 y3 h3
     have CWH := lH cw.2
     have m0 := cell_of_row w3 B 0 _ _ _ z3
     have g0 := frozen_of_row w3 B 0 _ _ z3
     have k0 := cell_of_row _ B 0 _ _ _ cw.1
     have k1 := cell_of_row _ B 1 _ _ _ cw.1
     clear cw t3 z3 y3 h3)
  | (go_at_call 96; refine CWH.out.mono ?_; rintro e w5 ⟨rfl, t5, z5, y5⟩
     have TS := lH (CS.out w5 t5 y5)
     have LD := lH (fun (y1 y2 : Int) (h1 : y1 = (N : Int)) (h2 : y2 = (N : Int)) => ld_set (row_set z5 h1 h2))
     have j1 := cell_of_row w5 B 1 _ _ _ z5
     have j2 := cell_of_row w5 B 2 _ _ _ z5
     have f1 := frozen_of_row w5 B 1 _ _ z5
     have f2 := frozen_of_row w5 B 2 _ _ z5
     clear t5 z5 y5)
  | (go_at_call 63; refine (TS.out _ _).mono ?_; rintro e w7 ⟨rfl, t7, y7⟩
     have T7 := lH t7
     have Y7 := lH y7
     clear t7 y7))
 go_ret
 exact ⟨rfl, T7.out, Y7.out⟩
end
theorem tx_ones (g T gm : Nat) : ∀ v ∈ (txC g T gm).toList, v.oneCell' = true := by
 intro v hv
 simp [txC] at hv
 rcases hv with rfl | rfl | rfl <;> rfl
theorem ld_tx {w : World} {b g T gm : Nat} (h : w.heap[b]? = some (.cells (txC g T gm) 92 (0, 0))) : (loadVar 92 ⟨b, 0, none⟩).run Tryz.prog w = .ok (.agg (txC g T gm)) w :=
 load_M (k := 3) (r := [.pointer (some ⟨g, 0, none⟩), .int .u64 (T : Int), .map (some gm)]) rfl infoTx (fun W => by unfold isAgg; rw [Sem.run_bind, run_underlying Tryz.underlying92 W]; rfl) (fun j u hu => by rw [Nat.zero_add, cell_of_row _ _ _ _ _ _ h]; simpa [txC] using hu)
theorem setRow_same {w : World} {b : Nat} {cs : Array Value} {t : TypeId} (h : w.heap[b]? = some (.cells cs t (0, 0))) : w.setRow b cs = w := by
 have : (w.setRow b cs).heap = w.heap := by
  unfold World.setRow
  apply Array.ext (by simp)
  intro i h1 h2
  rw [Array.getElem_modify]
  split
  · next e => subst e; have := (Array.getElem?_eq_some_iff.1 h).2; rw [this]
  · rfl
 show ({ w with heap := w.heap.modify b _ } : World) = w
 exact congrArg (fun h => ({ w with heap := h } : World)) this
section
variable {Z : DK} {w0 W W' : World} {g gd gp gt n V r q c : Nat} {F C : Nat -> List UInt8} {E E' : Nat -> Prop}
theorem T3.row (a : T3 Z w0 W g gd gp gt n V r q c F C E) : ∃ T gm, W.heap[gt]? = some (.cells (txC g T gm) 92 (0, 0)) := by
 obtain ⟨D, q', h, t, hd⟩ := a
 obtain ⟨p, j, T, u, H, ws, M, U, s, t, _⟩ := t
 obtain ⟨⟨gm, h1, _⟩, _⟩ := t
 exact ⟨_, gm, h1⟩
theorem change_ok {P : World -> Prop} {cp : Array Value} (a : T3 Z w0 W g gd gp gt n V r q c F C E) (h : ∀ w1, Below W.heap.size W w1 -> Calls Tryz.prog 83 cp w1 fun en W' => en = .returned (.int .i64 0) /\ P W') :
 Calls Tryz.prog 60 #[.pointer (some ⟨gt, 0, none⟩), .func (.func 83) #[] cp] W fun en W' => en = .returned (.int .i64 0) /\ P W' := by
 obtain ⟨T, gm, z⟩ := a.row
 have H := lH h
 have LD := lH (ld_tx z)
 have Bl : Hid (∀ o cs, Below W.heap.size W ((W.alloc o).setRow W.heap.size cs)) := lH (fun o cs => below_setRow ((Below.refl _ _).alloc (Nat.le_refl _) o) (Nat.le_refl _) _)
 clear h a
 go_enter Tryz.func60, Tryz.ntmps60
 go_wp2_with (first
  | (refine wpList_load8 rfl 92 (.tmp 8) rfl ⟨gt, 0, none⟩ rfl _ LD.out ?_)
  | (refine wpList_store_row8 rfl 92 (.tmp 5) (.tmp 9) rfl W.heap.size (txC g T gm) rfl rfl 92 _ (heap_alloc_new W _) infoTx rfl (tx_ones _ _ _) ?_)
  | (go_at_call 83; refine (H.out _ (Bl.out _ _)).mono ?_; rintro e w7 ⟨rfl, p7⟩
     have P7 := lH p7
     clear p7))
 go_ret
 exact ⟨rfl, P7.out⟩
theorem change_err {P : World -> Prop} {cp : Array Value} {y : Int} (hy : y ≠ 0) (a : T3 Z w0 W g gd gp gt n V r q c F C E) (h : ∀ w1 B, Below W.heap.size W w1 -> W.heap.size <= B -> B < w1.heap.size -> Calls Tryz.prog 83 cp w1 fun en W' => en = .returned (.int .i64 y) /\ W'.heap[gt]? = w1.heap[gt]? /\ W'.heap[B]? = w1.heap[B]? /\ P W') :
 Calls Tryz.prog 60 #[.pointer (some ⟨gt, 0, none⟩), .func (.func 83) #[] cp] W fun en W' => en = .returned (.int .i64 y) /\ P W' := by
 obtain ⟨T, gm, z⟩ := a.row
 have H := lH h
 have LD := lH (ld_tx z)
 have ZH := lH z
 have Bl : Hid (∀ o cs, Below W.heap.size W ((W.alloc o).setRow W.heap.size cs)) := lH (fun o cs => below_setRow ((Below.refl _ _).alloc (Nat.le_refl _) o) (Nat.le_refl _) _)
 have Bn : Hid (∀ old, ((W.alloc (.cells old 92 (0, 0))).setRow W.heap.size (txC g T gm)).heap[W.heap.size]? = some (.cells (txC g T gm) 92 (0, 0))) := lH (fun old => setRow_heap _ _ _ _ _ _ (heap_alloc_new W _))
 clear h a z
 go_enter Tryz.func60, Tryz.ntmps60
 go_wp2_with (first
  | (refine wpList_load8 rfl 92 (.tmp 8) rfl ⟨gt, 0, none⟩ rfl _ LD.out ?_)
  | (refine wpList_store_row8 rfl 92 (.tmp 5) (.tmp 9) rfl W.heap.size (txC g T gm) rfl rfl 92 _ (heap_alloc_new W _) infoTx rfl (tx_ones _ _ _) ?_)
  | (go_at_call 83; refine (H.out _ W.heap.size (Bl.out _ _) (Nat.le_refl _) (Array.getElem?_eq_some_iff.1 (Bn.out _)).1).mono ?_; rintro e w7 ⟨rfl, g7, b7, p7⟩
     have G7 := lH ((g7.trans ((Bl.out _ _).block gt (Array.getElem?_eq_some_iff.1 ZH.out).1)).trans ZH.out)
     have LD7 := lH (ld_tx (b7.trans (Bn.out _)))
     have P7 := lH p7
     clear g7 b7 p7)
  | (refine wpList_load8 rfl 92 (.tmp 5) rfl ⟨W.heap.size, 0, none⟩ rfl _ LD7.out ?_)
  | (refine wpList_store_row8 rfl 92 (.tmp 16) (.tmp 15) rfl gt (txC g T gm) rfl rfl 92 _ G7.out infoTx rfl (tx_ones _ _ _) ?_
     rw [setRow_same G7.out]))
 go_ret
 exact ⟨rfl, P7.out⟩
theorem change_okD {P : World -> Prop} {cp : Array Value} (a : T3 Z w0 W g gd gp gt n V r q c F C E) (h : ∀ w1, Below W.heap.size W w1 -> Calls Tryz.prog 61 cp w1 fun en W' => en = .returned (.int .i64 0) /\ P W') :
 Calls Tryz.prog 60 #[.pointer (some ⟨gt, 0, none⟩), .func (.func 61) #[] cp] W fun en W' => en = .returned (.int .i64 0) /\ P W' := by
 obtain ⟨T, gm, z⟩ := a.row
 have H := lH h
 have LD := lH (ld_tx z)
 have Bl : Hid (∀ o cs, Below W.heap.size W ((W.alloc o).setRow W.heap.size cs)) := lH (fun o cs => below_setRow ((Below.refl _ _).alloc (Nat.le_refl _) o) (Nat.le_refl _) _)
 clear h a
 go_enter Tryz.func60, Tryz.ntmps60
 go_wp2_with (first
  | (refine wpList_load8 rfl 92 (.tmp 8) rfl ⟨gt, 0, none⟩ rfl _ LD.out ?_)
  | (refine wpList_store_row8 rfl 92 (.tmp 5) (.tmp 9) rfl W.heap.size (txC g T gm) rfl rfl 92 _ (heap_alloc_new W _) infoTx rfl (tx_ones _ _ _) ?_)
  | (go_at_call 61; refine (H.out _ (Bl.out _ _)).mono ?_; rintro e w7 ⟨rfl, p7⟩
     have P7 := lH p7
     clear p7))
 go_ret
 exact ⟨rfl, P7.out⟩
end
section
variable {W W' : World}
theorem add1_any {Q : Value -> World -> Prop} {b0 b1 b2 b3 gt : Nat} {x : Ent} {k : Int} {A : Option Addr} {N cA : Nat} (z0 : W.heap[b0]? = some (bx x)) (z1 : W.cell? ⟨b1, 0, none⟩ = some (.pointer (some ⟨gt, 0, none⟩))) (z2 : W.cell? ⟨b2, 0, none⟩ = some (.int .i64 k)) (z3 : W.cell? ⟨b3, 0, none⟩ = some (.slice A N cA))
 (h : Calls Tryz.prog 84 #[.agg x.cells.toArray, .pointer (some ⟨gt, 0, none⟩), .int .i64 k, .slice A N cA] W fun en W' => ∃ y : Int, en = .returned (.int .i64 y) /\ Q (.int .i64 y) W') :
 Calls Tryz.prog 83 #[.pointer (some ⟨b0, 0, none⟩), .pointer (some ⟨b1, 0, none⟩), .pointer (some ⟨b2, 0, none⟩), .pointer (some ⟨b3, 0, none⟩)] W fun en W' => ∃ y : Int, en = .returned (.int .i64 y) /\ Q (.int .i64 y) W' := by
 have H := lH h
 have LD := lH (ld_set z0)
 clear h z0
 go_enter Tryz.func83, Tryz.ntmps83
 go_wp2_with (first
  | (refine wpList_load8 rfl 121 (.tmp 0) rfl ⟨b0, 0, none⟩ rfl _ LD.out ?_)
  | (go_at_call 84; refine H.out.mono ?_; rintro e w7 ⟨y, rfl, q7⟩
     have Q7 := lH q7
     clear q7))
 go_ret
 exact ⟨y, rfl, Q7.out⟩
end
def Pick (F : Nat -> List UInt8) (sz x : Int) (f : Bool) : Prop := (∃ k : Nat, k < 64 /\ x = (k : Int) /\ f = true /\ IsRoom F sz (-1) k /\ ∀ j, j < k -> ¬ IsRoom F sz (-1) j) \/ ((∀ j, j < 64 -> ¬ IsRoom F sz (-1) j) /\ Miss F x f)
section
variable {W W' : World} {F : Nat -> List UInt8} {gl : Nat} {cur : Array Value}
theorem addone_any (hg : W.heap[gl]? = some (.cells cur 204 (0, 0))) (hc : TabC F 64 cur) {sz : Int} (hs0 : 0 <= sz) (hs1 : sz <= 1099511627776) :
 Calls Tryz.prog 46 #[.pointer (some ⟨gl, 0, none⟩), .int .i64 sz] W fun e w' => ∃ x f, e = .returned (.tuple #[.int .i64 x, .bool f]) /\ Pick F sz x f /\ Below W.heap.size W w' := by
 have H := lH (withRoom_any (but := -1) hg hc hs0 hs1)
 have M : Hid (∀ W1, Below W.heap.size W W1 -> Calls Tryz.prog 47 #[.pointer (some ⟨gl, 0, none⟩)] W1 fun e w' => ∃ x f, e = .returned (.tuple #[.int .i64 x, .bool f]) /\ Miss F x f /\ Below W1.heap.size W1 w') := lH (fun W1 hb => missing_any ((hb.block gl (Array.getElem?_eq_some_iff.1 hg).1).trans hg) hc)
 clear hg hc hs0 hs1
 go_enter Tryz.func46, Tryz.ntmps46
 go_upto_region 2 with (first
  | (go_at_call 45; refine H.out.mono ?_; rintro e w7 ⟨x, f, rfl, q7, b7⟩
     have Q7 := lH q7
     have B7 := lH b7
     clear q7 b7))
 rcases Q7.out with ⟨k, h1, rfl, rfl, h4, h5⟩ | ⟨rfl, rfl, h3⟩
 · have R := lH (show Pick F sz (k : Int) true from .inl ⟨k, h1, rfl, rfl, h4, h5⟩)
   clear h1 h4 h5
   go_wp2_with fail
   go_ret2
   exact ⟨_, _, rfl, R.out, B7.out⟩
 · have H3 := lH h3
   clear h3
   go_wp2_with (first
    | (go_at_call 47; refine (M.out _ B7.out).mono ?_; rintro e w8 ⟨x, f, rfl, q8, b8⟩
       have Q8 := lH q8
       have B8 := lH b8
       clear q8 b8))
   go_ret2
   exact ⟨_, _, rfl, .inr ⟨H3.out, Q8.out⟩, B7.out.trans (B8.out.mono B7.out.size)⟩
end
section
variable {Z : DK} {w0 W W' : World} {g gd gp gt n V r q c : Nat} {F C : Nat -> List UInt8} {E E' : Nat -> Prop}
def RetSt (Z : DK) (w0 W : World) (g gd gp gt n V r q c : Nat) (F C : Nat -> List UInt8) (E : Nat -> Prop) (x : Ent) (f : Int) (en : Ending) (W' : World) : Prop :=
 en = .returned (.tuple #[.int .i64 (x.u : Int), .int .i64 (x.v : Int), .int .i64 f]) /\ T3 Z w0 W' g gd gp gt n V r q c F C E /\ Only (fun k => ¬ E k) W W'
theorem stat_of {k : Int} {x : Ent} {f : Int} (h : Calls Tryz.prog 66 #[.pointer (some ⟨gt, 0, none⟩), .int .i64 k] W (RetE Z w0 W g gd gp gt n V r q c F C E x f)) :
 Calls Tryz.prog 34 #[.pointer (some ⟨gt, 0, none⟩), .int .i64 k] W (RetSt Z w0 W g gd gp gt n V r q c F C E x f) := by
 have H := lH h
 have HO := lH (ent_ones x)
 clear h
 obtain ⟨s, u, v⟩ := x
 go_enter Tryz.func34, Tryz.ntmps34
 go_upto_region 2 with (first
  | (go_at_call 66; refine H.out.mono ?_; rintro e w7 ⟨rfl, t7, y7⟩
     have T7 := lH t7
     have Y7 := lH y7
     clear t7 y7)
  | (refine wpList_store_row8 rfl 121 (.tmp 7) (.tmp 13) rfl w7.heap.size (Ent.cells ⟨s, u, v⟩).toArray rfl rfl 121 _ (heap_alloc_new w7 _) infoEnt rfl HO.out ?_))
 have z8 : ((w7.alloc (bx .z)).setRow w7.heap.size (Ent.cells ⟨s, u, v⟩).toArray).heap[w7.heap.size]? = some (bx ⟨s, u, v⟩) := setRow_heap _ _ _ _ 121 _ (heap_alloc_new w7 _)
 have b8 : Below w7.heap.size w7 ((w7.alloc (bx .z)).setRow w7.heap.size (Ent.cells ⟨s, u, v⟩).toArray) := below_setRow ((Below.refl _ _).alloc (Nat.le_refl _) _) (Nat.le_refl _) _
 unfold bx Ent.z Ent.cells at *
 simp only at z8 b8 ⊢
 obtain ⟨w8, hw8⟩ : ∃ w8, ((w7.alloc (.cells #[.int .i64 ((0 : Nat) : Int), .int .i64 ((0 : Nat) : Int), .int .i64 ((0 : Nat) : Int)] 121 (0, 0))).setRow w7.heap.size #[.int .i64 (s : Int), .int .i64 (u : Int), .int .i64 (v : Int)]) = w8 := ⟨_, rfl⟩
 rw [hw8] at z8 b8
 rw [show ((0 : Nat) : Int) = 0 from rfl] at hw8
 rw [hw8]
 obtain ⟨gm, hgm⟩ : ∃ gm, w7.heap.size = gm := ⟨_, rfl⟩
 rw [hgm] at z8 b8
 simp only [hgm]
 have k1 := cell_of_row w8 gm 1 _ _ _ z8
 have k2 := cell_of_row w8 gm 2 _ _ _ z8
 have T8 := lH ((T7.out.up1 (hgm ▸ b8)).up1 (Below.refl w8.heap.size w8).drew)
 have Y8 := lH (Y7.out.trans (Only.of_below (S := fun k => ¬ E k) (hgm ▸ b8 : Below w7.heap.size w7 w8) (Nat.le_refl _)))
 clear hw8 hgm z8 b8
 go_region
 all_goals (try go_wp2_with fail)
 all_goals go_ret3
 all_goals exact ⟨rfl, T8.out, Y8.out.trans (Only.of_below (Below.refl w8.heap.size w8).drew (Nat.le_refl _))⟩
end
end Go.Proofs.YthoebjekkfhhgaaGreat
