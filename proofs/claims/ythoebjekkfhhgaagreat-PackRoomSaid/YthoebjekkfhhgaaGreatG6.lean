/-
  Own work.
-/
import Derived.Test.YthoebjekkfhhgaaGreatCp9
import Derived.Test.YthoebjekkfhhgaaGreatG2
import Derived.Test.YthoebjekkfhhgaaGreatG7
set_option linter.unusedVariables false
set_option linter.unusedSimpArgs false
set_option maxRecDepth 100000
set_option maxHeartbeats 8000000
namespace Go.Proofs.YthoebjekkfhhgaaGreat
open Go.RowKit
theorem over_splice (S m : List UInt8) (off : Nat) : splice (cellsB S) off (cellsB m) = cellsB (over S off m) := by
 unfold splice over cellsB
 simp [List.map_take, List.map_drop]
theorem wp_copyB {P : Program} {w : World} {ops : Array Oper} {rest : List Oper} {o : Oper} {a : Act} {Q : Exit -> Act -> World -> Prop} (hgd : o.guard = none) (d s : Operand)
 (ho : o.op = .call { callee := .builtin .copy, args := #[d, s], argTypes := #[34, 34] }) (ht : P.underlying 34 = some (.slice 5)) (hsz : (P.info? 5).map (·.size) = some 1)
 (g off dn dc : Nat) (t : TypeId) (S m : List UInt8) (hB : Bw w g t S) (hd : a.eval d = .slice (some ⟨g, off, none⟩) dn dc) (B : Nat) (A : Option Addr) (n c : Nat) (hs : a.eval s = .slice A n c) (hm : HasB w B A n m) (hle : n <= dn) (hfit : off + n <= S.length)
 (h : ∀ w', Bw w' g t (over S off m) -> Only (fun k => k = g) w w' -> wpList P ops Q rest (a.put o.dst (goInt (cellsB m).length)) w') : wpList P ops Q (o :: rest) a w := by
 obtain ⟨hnl, hcell⟩ := hm
 by_cases h0 : m.length = 0
 · obtain rfl : m = [] := List.eq_nil_of_length_eq_zero h0
   refine wpList_copy_nothing hgd d s _ _ ho 5 ht hsz _ _ _ _ _ _ hd hs (by rw [hnl]; simp) ?_
   exact h w (by rw [over_nil]; exact hB) (Only.refl _ _)
 · obtain ⟨g', o', rfl, _, hc⟩ := hcell (by omega)
   refine wpList_copy_own hgd d s _ _ ho 5 ht hsz g off dn dc _ n c hd hs (cellsB S).toArray t hB (cellsB m) (by rw [cellsB_length, <- hnl]; exact (Nat.min_eq_left hle).symm) (fun j v hv => ?_) (by simp [cellsB]; omega) (cellsB_one m) ?_
   · obtain ⟨b, hb, rfl⟩ := cellsB_at hv
     rw [Addr.add_lit]
     exact hc j b hb
   · refine h _ ?_ ((Only.refl _ w).setRow (S := fun k => k = g) rfl _)
     refine (setRow_heap w g _ _ t _ hB).trans ?_
     rw [<- over_splice]
     simp [splice]
def RetS (w : World) (g : Nat) (l : List UInt8) (e : Ending) (w' : World) : Prop := e = .returned (.tuple #[]) /\ Bw w' g 185 l /\ Only (fun k => k = g) w w'
section
variable {w : World} {g : Nat} {s : List UInt8}
theorem hsz1 : (Tryz.prog.info? 5).map (·.size) = some 1 := by kernel_rfl
theorem sput_any (p v k : Nat) (h : Bw w g 185 s) (hs : s.length = 512) (hv : v < 18446744073709551616) (hk1 : 1 <= k) (hk8 : k <= 8) (hfit : v < 256 ^ k) (hp : p + k <= 512) :
 Calls Tryz.prog 147 #[.pointer (some ⟨g, 0, none⟩), .int .i64 (p : Int), .int .u64 (v : Int), .int .i64 (k : Int)] w (RetS w g (over s p (be k v))) := by
 have C := lH (put_ok none [] 0 0 v k w (HasB.nil _ _ _) (by omega) hv hk1 hk8 hfit)
 have H := lH h
 have HS := lH hs
 have hp2 : (p : Int) <= 512 := by omega
 have hp3 : ¬ (512 = p) := by omega
 clear h hs hv hfit
 go_enter Tryz.func147, Tryz.ntmps147
 go_wp2_with (first
  | (go_at_call 95; refine C.out.mono ?_; rintro e w1 ⟨A1, n1, c1, rfl, own1, b1⟩
     have hn1 := own1.len
     rw [List.nil_append, be_length] at hn1
     subst hn1
     have O1 := lH own1.has
     have H1 : Hid (Bw w1 g 185 s) := lH (H.out.below b1 H.out.lt)
     have B1 := lH b1
     clear own1 b1)
  | (refine wp_copyB rfl (.tmp 19) (.tmp 20) rfl Tryz.underlying34 hsz1 g p (512 - p) (512 - p) 185 s (be n1 v) H1.out rfl w1.heap.size A1 n1 c1 rfl (by have := O1.out; rwa [List.nil_append] at this) (by omega) (by have := HS.out; omega) ?_
     intro w2 h2 o2))
 go_end0
 exact ⟨rfl, h2, (Only.of_below B1.out (Nat.le_refl _)).trans o2⟩
def RetW (w : World) (v : Value) (e : Ending) (w' : World) : Prop := e = .returned v /\ w = w'
theorem snum_any (p k : Nat) (h : Bw w g 185 s) (hs : s.length = 512) (hk1 : 1 <= k) (hk8 : k <= 8) (hp : p + k <= 512) :
 Calls Tryz.prog 140 #[.pointer (some ⟨g, 0, none⟩), .int .i64 (p : Int), .int .i64 (k : Int)] w (RetW w (.int .u64 (num (sub s p k) : Nat))) := by
 have C := lH (at_ok (some ⟨g, 0, none⟩) s 512 512 p k w (h.has (by omega)) (by omega) (Nat.le_refl _) (by simp only [maxLen]; omega) hk1 hk8 hp)
 obtain ⟨z, hz⟩ : ∃ z, num (sub s p k) = z := ⟨_, rfl⟩
 have hz' : num ((s.drop p).take k) = z := hz
 rw [hz'] at C
 rw [hz]
 clear h hs hz hz'
 go_enter Tryz.func140, Tryz.ntmps140
 go_wp2_with (go_at_call 131; refine C.out.mono ?_; rintro e w1 ⟨rfl, rfl⟩)
 go_ret
 exact ⟨rfl, rfl⟩
theorem sset_any (v : Nat) (h : Bw w g 185 s) (hs : s.length = 512) (hv : v < 18446744073709551616) :
 Calls Tryz.prog 148 #[.pointer (some ⟨g, 0, none⟩), .int .u64 (v : Int)] w (RetS w g (setTag s v)) := by
 have C1 := lH (sput_any 0 v 8 h hs hv (by omega) (by omega) (by omega) (by omega))
 have C2 := lH (fun W (hW : Bw W g 185 (over s 0 (be 8 v))) => sput_any 504 v 8 hW (over_be hs (by omega)) hv (by omega) (by omega) (by omega) (by omega))
 clear h hs hv
 go_enter Tryz.func148, Tryz.ntmps148
 go_wp2_with (first
  | (go_at_call 147; refine (C2.out _ H1.out).mono ?_; rintro e w2 ⟨rfl, h2, o2⟩)
  | (go_at_call 147; refine C1.out.mono ?_; rintro e w1 ⟨rfl, h1, o1⟩
     have H1 := lH h1
     have O1 := lH o1
     clear h1 o1))
 go_end0
 exact ⟨rfl, h2, O1.out.trans o2⟩
theorem stag_any (h : Bw w g 185 s) (hs : s.length = 512) :
 Calls Tryz.prog 141 #[.pointer (some ⟨g, 0, none⟩)] w (RetW w (.int .u64 (tagOf s : Nat))) := by
 have c1 := snum_any 0 8 h hs (by omega) (by omega) (by omega)
 have c2 := snum_any 504 8 h hs (by omega) (by omega) (by omega)
 unfold tagOf
 obtain ⟨x, hx⟩ : ∃ x, num (sub s 0 8) = x := ⟨_, rfl⟩
 obtain ⟨y, hy⟩ : ∃ y, num (sub s 504 8) = y := ⟨_, rfl⟩
 rw [hx] at c1
 rw [hy] at c2
 rw [hx, hy]
 have C1 := lH c1
 have C2 := lH c2
 clear c1 c2 hx hy h hs
 by_cases hxy : x = y
 · subst hxy
   rw [if_pos rfl]
   go_enter Tryz.func141, Tryz.ntmps141
   go_wp2_with (first
    | (go_at_call_of 140 (Value.int .i64 504); refine C2.out.mono ?_; rintro e w1 ⟨rfl, rfl⟩)
    | (go_at_call 140; refine C1.out.mono ?_; rintro e w1 ⟨rfl, rfl⟩))
   go_ret
   exact ⟨rfl, rfl⟩
 · rw [if_neg hxy]
   have hne : ¬ ((x : Int) = (y : Int)) := by omega
   clear hxy
   go_enter Tryz.func141, Tryz.ntmps141
   go_wp2_with (first
    | (go_at_call_of 140 (Value.int .i64 504); refine C2.out.mono ?_; rintro e w1 ⟨rfl, rfl⟩)
    | (go_at_call 140; refine C1.out.mono ?_; rintro e w1 ⟨rfl, rfl⟩))
   go_ret
   exact ⟨rfl, rfl⟩
theorem or_one (t : Nat) (ht : t < 9223372036854775808) : bits .or .u64 ((t : Int) * 2) 1 = ((t * 2 + 1 : Nat) : Int) := by
 rw [bits_join .u64 64 (by decide) wraps_u64 1 ((t : Int) * 2) 1 (by omega) (by omega) (by omega) (by omega) (by omega) (by omega)]
 omega
theorem hdrTag_any (t : Nat) (w : World) (ht : t < 9223372036854775808) :
 Calls Tryz.prog 142 #[.int .u64 (t : Int)] w (RetW w (.int .u64 ((2 * t + 1 : Nat) : Int))) := by
 go_enter Tryz.func142, Tryz.ntmps142
 go_wp2_with fail
 go_ret
 refine ⟨?_, rfl⟩
 rw [show (2 * t + 1 : Nat) = t * 2 + 1 by omega, <- or_one t ht]
 rfl
theorem ringTag_any (t : Nat) (w : World) (ht : t < 9223372036854775808) :
 Calls Tryz.prog 144 #[.int .u64 (t : Int)] w (RetW w (.int .u64 ((2 * t : Nat) : Int))) := by
 go_enter Tryz.func144, Tryz.ntmps144
 go_wp2_with fail
 go_ret
 refine ⟨?_, rfl⟩
 rw [show ((2 * t : Nat) : Int) = (t : Int) * 2 by omega]
 rfl
theorem zc97 : Tryz.zeroCells185 = (cellsB zsec).toArray := by kernel_rfl
theorem infoJsec : (Tryz.prog.info? 185).map (·.size) = some 512 := by kernel_rfl
theorem sec_iv {l : List UInt8} (hl : l.length = 512) : (Tryz.prog.info? 185).map (·.size) = some (cellsB l).toArray.size := by rw [cellsB_size, hl]; exact infoJsec
theorem wp_load_sec {w : World} {ops : Array Oper} {rest : List Oper} {o : Oper} {a : Act} {Q : Exit -> Act -> World -> Prop} (hgd : o.guard = none) (x : Operand) (ho : o.op = .load 185 x)
 (g : Nat) (hx : a.eval x = .pointer (some ⟨g, 0, none⟩)) (t : TypeId) (s : List UInt8) (hB : Bw w g t s) (hs : s.length = 512) (h : wpList Tryz.prog ops Q rest (a.put o.dst (.agg (cellsB s).toArray)) w) : wpList Tryz.prog ops Q (o :: rest) a w :=
 wpList_load_row hgd _ x ho g hx t _ (0, 0) _ hB Tryz.underlying185 rfl (sec_iv hs) h
theorem wp_store_sec {w : World} {ops : Array Oper} {rest : List Oper} {o : Oper} {a : Act} {Q : Exit -> Act -> World -> Prop} (hgd : o.guard = none) (x y : Operand) (ho : o.op = .store 185 x y)
 (g : Nat) (s : List UInt8) (hx : a.eval x = .pointer (some ⟨g, 0, none⟩)) (hy : a.eval y = .agg (cellsB s).toArray) (t : TypeId) (old : List UInt8) (hB : Bw w g t old) (ho' : old.length = 512) (hs : s.length = 512)
 (h : ∀ w', Bw w' g t s -> Only (fun k => k = g) w w' -> wpList Tryz.prog ops Q rest (a.put o.dst undef) w') : wpList Tryz.prog ops Q (o :: rest) a w :=
 wpList_store_row hgd _ x y ho g _ hx hy t _ hB (sec_iv hs) (by rw [cellsB_size, cellsB_size, ho', hs]) (cellsB_ones s) (h _ hB.row ((Only.refl _ w).setRow (S := fun k => k = g) rfl _))
theorem res_sec {fn : Func} {p : Tmp} (h : fn.results = #[.cell p 185]) (tmps : Array Value) {w : World} {g : Nat} {t : TypeId} {s : List UInt8} (hp : tmps.getD p undef = .pointer (some ⟨g, 0, none⟩)) (hB : Bw w g t s) (hs : s.length = 512) :
 (results fn tmps).run Tryz.prog w = .ok (.agg (cellsB s).toArray) w :=
 results_cell_row h tmps w g t _ (0, 0) _ hp hB Tryz.underlying185 rfl (sec_iv hs)
end
theorem RetV.bel {w : World} {v : Value} {f : FuncId} {args : Array Value} (h : Calls Tryz.prog f args w (RetW w v)) : Calls Tryz.prog f args w fun e w' => e = .returned v /\ Below w.heap.size w w' :=
 h.mono fun e w' ⟨h1, h2⟩ => ⟨h1, h2 ▸ Below.refl _ _⟩
theorem cell_far {W : World} {g i j : Nat} {v : Value} (h : W.cell? ⟨g, i, none⟩ = some v) (u : Value) (hij : i ≠ j) : (W.setCell ⟨g, j, none⟩ u).cell? ⟨g, i, none⟩ = some v := by
 rw [World.cell?_setCell_other _ _ _ _ (by intro e; injection e; omega)]
 exact h
theorem lst_len' (s : ByteArray) : (lst s).length = s.size := rfl
theorem RM.Ok.lsz' {m : RM} {n i : Nat} (ok : m.Ok n) (hi : i < n) : (m.last.getD i ⟨#[]⟩).size = 512 := by
 have hlt : i < m.last.length := by rw [ok.nl]; exact hi
 rw [List.getD_eq_getElem?_getD, List.getElem?_eq_getElem hlt]
 exact ok.ls _ (List.getElem_mem hlt)
theorem RM.Ok.wsz' {m : RM} {n i : Nat} (ok : m.Ok n) (hi : i < n) : (m.wait.getD i ⟨#[]⟩).size = 0 \/ (m.wait.getD i ⟨#[]⟩).size = 512 := by
 have hlt : i < m.wait.length := by rw [ok.nw]; exact hi
 rw [List.getD_eq_getElem?_getD, List.getElem?_eq_getElem hlt]
 exact ok.ws _ (List.getElem_mem hlt)
theorem Bw.keepO {W W' : World} {S : Nat -> Prop} {k : Nat} {t : TypeId} {l : List UInt8} (h : Bw W k t l) (ho : Only S W W') (hk : ¬ S k) : Bw W' k t l := (ho.block k h.lt hk).trans h
structure PoB (w : World) (g gd : Nat) (e : Int) (cs : Array Value) (t : TypeId) : Prop where
 blk : w.heap[g]? = some (.cells cs t (0, 0))
 c0 : cs[0]? = some (.pointer (some ⟨gd, 0, none⟩))
 c1 : cs[1]? = some (.int .i64 e)
section
variable {Z : DK} {w w' : World} {g gd n : Nat} {S T : Nat -> Prop} {e : Int} {cs : Array Value} {t : TypeId} {m : RM}
theorem PoB.lt (h : PoB w g gd e cs t) : g < w.heap.size := (Array.getElem?_eq_some_iff.1 h.blk).1
theorem PoB.only (h : PoB w g gd e cs t) (ho : Only T w w') (hg : ¬ T g) : PoB w' g gd e cs t := ⟨(ho.block g h.lt hg).trans h.blk, h.c0, h.c1⟩
theorem PoB.below (h : PoB w g gd e cs t) (hb : Below w.heap.size w w') : PoB w' g gd e cs t := h.only (Only.of_below (S := fun _ => False) hb (Nat.le_refl _)) (fun h => h)
theorem PoB.drew (h : PoB w g gd e cs t) : PoB w.drew g gd e cs t := ⟨h.blk, h.c0, h.c1⟩
theorem PoB.d (h : PoB w g gd e cs t) : w.cell? ⟨g, 0, none⟩ = some (.pointer (some ⟨gd, 0, none⟩)) := (cell_of_row w g 0 _ _ (0, 0) h.blk).trans h.c0
theorem PoB.er (h : PoB w g gd e cs t) : w.cell? ⟨g, 1, none⟩ = some (.int .i64 e) := (cell_of_row w g 1 _ _ (0, 0) h.blk).trans h.c1
theorem PoB.fr (h : PoB w g gd e cs t) (k : Nat) : w.frozen? ⟨g, k, none⟩ = false := frozen_of_row w g k _ _ h.blk
theorem PoB.put (h : PoB w g gd e cs t) (e' : Int) : PoB (w.setCell ⟨g, 1, none⟩ (.int .i64 e')) g gd e' (cs.setIfInBounds 1 (.int .i64 e')) t := by
 have h1 := h.c1
 have hs : 1 < cs.size := (Array.getElem?_eq_some_iff.1 h1).1
 refine ⟨heap_setCell_same w g 1 _ _ _ h.blk, ?_, ?_⟩
 · rw [Array.getElem?_setIfInBounds_ne (by omega)]
   exact h.c0
 · rw [Array.getElem?_setIfInBounds_self_of_lt hs]
theorem PoB.same (h : PoB w g gd e cs t) : cs.setIfInBounds 1 (.int .i64 e) = cs := by
 have h1 := h.c1
 obtain ⟨hs, h2⟩ := Array.getElem?_eq_some_iff.1 h1
 apply Array.ext
 · simp
 · intro i hi1 hi2
   rw [Array.getElem_setIfInBounds]
   split
   · rename_i hh
     subst hh
     exact h2.symm
   · rfl
def LeftP (Z : DK) (w : World) (g gd : Nat) (S : Nat -> Prop) (n : Nat) (cs : Array Value) (t : TypeId) (p : Pt) (w' : World) : Prop :=
 ∃ S', Z.D w' gd S' n p.m /\ (∀ k, S' k -> S k \/ w.heap.size <= k) /\ PoB w' g gd p.e (cs.setIfInBounds 1 (.int .i64 p.e)) t /\ Only (fun k => S k \/ k = g) w w'
def RetPo (Z : DK) (w : World) (g gd : Nat) (S : Nat -> Prop) (n : Nat) (cs : Array Value) (t : TypeId) (p : Pt) (e : Ending) (w' : World) : Prop :=
 e = .returned (.tuple #[]) /\ LeftP Z w g gd S n cs t p w'
theorem LeftP.same (d : Z.D w gd S n m) (h : PoB w g gd e cs t) : LeftP Z w g gd S n cs t ⟨m, e⟩ w :=
 ⟨S, d, fun _ hk => .inl hk, by rw [h.same]; exact h, Only.refl _ _⟩
theorem LeftP.below (hb : Below w.heap.size w w') (h : PoB w g gd e cs t) (d : Z.D w gd S n m) : LeftP Z w g gd S n cs t ⟨m, e⟩ w' :=
 ⟨S, Z.only d (Only.of_below (S := fun _ => False) hb (Nat.le_refl _)) (fun _ _ h => h), fun _ hk => .inl hk, by rw [h.same]; exact h.below hb, Only.of_below hb (Nat.le_refl _)⟩
theorem LeftP.step {w1 : World} {m1 : RM} {e1 : Int} {v : Value} {en : Ending} (h : PoB w g gd e cs t) (hg : ¬ S g) (l : Left2 Z.D w gd S n v m1 en w1) : LeftP Z w g gd S n cs t ⟨m1, e1⟩ (w1.setCell ⟨g, 1, none⟩ (.int .i64 e1)) := by
 obtain ⟨_, ⟨S', d', hs⟩, ho⟩ := l
 have hg' : ¬ S' g := fun hh => by
  rcases hs g hh with h1 | h1
  · exact hg h1
  · have := h.lt; omega
 refine ⟨S', ?_, hs, (h.only ho hg).put e1, ?_⟩
 · exact Z.only d' ((Only.refl (fun k => k = g) w1).setCell (p := ⟨g, 1, none⟩) rfl _) (fun k hk e => hg' (e ▸ hk))
 · exact (ho.mono (fun k _ hk => .inl hk)).setCell (.inr rfl) _
theorem Left2.below {D : World -> Nat -> (Nat -> Prop) -> Nat -> RM -> Prop} {w0 w w' : World} {v : Value} {en : Ending} (hb : Below w0.heap.size w0 w) (l : Left2 D w g S n v m en w') : Left2 D w0 g S n v m en w' := by
 obtain ⟨h1, ⟨S', d', hs⟩, ho⟩ := l
 refine ⟨h1, ⟨S', d', fun k hk => (hs k hk).imp id fun h => Nat.le_trans hb.size h⟩, (Only.of_below hb (Nat.le_refl _)).trans ho⟩
theorem Only.belowT {w2 : World} (h : Only T w w2) (hb : Below w.heap.size w2 w') : Only T w w' :=
 ⟨hb.os.trans h.os, hb.tape.trans h.tape, hb.output.trans h.output, Nat.le_trans h.size hb.size, fun k hk hT => (hb.block k hk).trans (h.block k hk hT)⟩
theorem OwnX.hasOff {w0 w1 : World} {A : Option Addr} {n c k : Nat} {l : List UInt8} {u : Value} (h : OwnX w1 w0.heap.size (.slice A n c) l) (hb : Below w0.heap.size w0 w1) (hg : g < w0.heap.size) : HasB (w1.setCell ⟨g, k, none⟩ u) w1.heap.size A n l := by
 have h1 := h.has
 refine ⟨h1.1, fun hn => ?_⟩
 obtain ⟨b, e, hb2, hlt, hc⟩ := h.head hn
 obtain ⟨b', o', e', _, hc'⟩ := h1.2 hn
 refine ⟨b', o', e', by rw [e] at e'; simp only [Option.some.injEq, Addr.mk.injEq, and_true] at e'; omega, fun i x hx => ?_⟩
 rw [World.cell?_setCell_other _ _ _ _ (by rw [e] at e'; simp only [Option.some.injEq, Addr.mk.injEq, and_true] at e'; intro q; injection q; omega)]
 exact hc' i x hx
theorem pofl_any (p : Pt) (d : Z.D w gd S n p.m) (ok : p.m.Ok n) (h : PoB w g gd p.e cs t) (hg : ¬ S g) :
 Calls Tryz.prog 104 #[.pointer (some ⟨g, 0, none⟩)] w (RetPo Z w g gd S n cs t (p.fl n)) := by
 obtain ⟨m, e⟩ := p
 have c0 := h.d
 have c1 := h.er
 have f1 := h.fr 1
 unfold Pt.fl
 by_cases he : e = 0
 · rw [if_pos he]
   subst he
   have C := lH (Z.flush_any d ok)
   have H := lH h
   have G := lH hg
   obtain ⟨z, hz⟩ : ∃ z, m.flushE = z := ⟨_, rfl⟩
   obtain ⟨m', hm'⟩ : ∃ m', m.flushM n = m' := ⟨_, rfl⟩
   rw [hz, hm'] at C
   rw [hz, hm']
   clear h hg d ok hz hm'
   go_enter Tryz.func104, Tryz.ntmps104
   go_wp2_with (go_at_call 135; refine C.out.mono ?_; rintro e w1 l1
                have L1 := lH l1
                have f9 := (H.out.only l1.2.2 G.out).fr 1
                have c9 := (H.out.only l1.2.2 G.out).er
                obtain ⟨rfl, _, _⟩ := l1)
   go_end0
   exact ⟨rfl, LeftP.step H.out G.out L1.out⟩
 · rw [if_neg he]
   have H := lH (LeftP.same d h)
   have he' : (e == 0) = false := by rw [beq_eq_false_iff_ne]; exact he
   clear h hg d ok
   go_enter Tryz.func104, Tryz.ntmps104
   go_wp2_with fail
   go_end0
   exact ⟨rfl, H.out⟩
theorem LeftP.from {w0 w1 : World} {p : Pt} (hb : Below w.heap.size w w0) (l : LeftP Z w0 g gd S n cs t p w1) : LeftP Z w g gd S n cs t p w1 := by
 obtain ⟨S', d', hs, h1, ho⟩ := l
 exact ⟨S', d', fun k hk => (hs k hk).imp id fun h => Nat.le_trans hb.size h, h1, (Only.of_below hb (Nat.le_refl _)).trans ho⟩
theorem powr_any (p : Pt) (i : Int) (s : List UInt8) (d : Z.D w gd S n p.m) (ok : p.m.Ok n) (hw : p.m.wrote < 1073741824) (hi : -9223372036854775808 <= i /\ i <= 9223372036854775807) (hs : s.length = 512) (h : PoB w g gd p.e cs t) (hg : ¬ S g) :
 Calls Tryz.prog 105 #[.pointer (some ⟨g, 0, none⟩), .int .i64 i, .agg (cellsB s).toArray] w (RetPo Z w g gd S n cs t (p.wr n i s)) := by
 obtain ⟨m, e⟩ := p
 obtain ⟨w0, hw0⟩ : ∃ w0, w.alloc (.cells (cellsB s).toArray 185) = w0 := ⟨_, rfl⟩
 have hb : Below w.heap.size w w0 := by rw [<- hw0]; exact (Below.refl _ _).alloc (Nat.le_refl _) _
 have hB : HasB w0 w0.heap.size (some ⟨w.heap.size, 0, none⟩) 512 s := by rw [<- hw0, <- hs]; exact HasB.row w s _
 have hN : HasN w0 S (some ⟨w.heap.size, 0, none⟩) 512 s := by
  refine ⟨hB.1, fun hn => ?_⟩
  obtain ⟨gb, o, e, hg', hc⟩ := hB.2 hn
  simp only [Option.some.injEq, Addr.mk.injEq, and_true] at e
  obtain ⟨rfl, rfl⟩ := e
  exact ⟨w.heap.size, 0, rfl, hg', fun hk => by have := Z.lt d _ hk; omega, hc⟩
 have d0 : Z.D w0 gd S n m := Z.only d (Only.of_below (S := fun _ => False) hb (Nat.le_refl _)) (fun _ _ h => h)
 have h0 := h.below hb
 have c0 := h0.d
 have c1 := h0.er
 have f1 := h0.fr 1
 unfold Pt.wr
 obtain ⟨i1, i2⟩ := hi
 by_cases he : e = 0
 · rw [if_pos he]
   subst he
   have C := lH (Z.write_any i _ 512 512 s (Z.only d0 (Only.refl (fun _ => False) w0).drew (fun _ _ h => h)) ok hw ⟨i1, i2⟩ ⟨hN.1, hN.2⟩ (Nat.le_refl _) (by omega))
   have H := lH h0
   have G := lH hg
   have B := lH hb
   obtain ⟨z, hz⟩ : ∃ z, m.writeE n i (strB s) = z := ⟨_, rfl⟩
   obtain ⟨m', hm'⟩ : ∃ m', m.writeM n i (strB s) = m' := ⟨_, rfl⟩
   rw [hz, hm'] at C
   rw [hz, hm']
   have W0 := lH hw0
   clear h hg d ok hz hm' hB hN d0 h0 hb hw0
   go_enter Tryz.func105, Tryz.ntmps105
   go_upto_region 1 with fail
   rw [W0.out]
   go_wp2_with fail
   go_region_held3 (fun W => W.cell? ⟨g, 0, none⟩ = some (.pointer (some ⟨gd, 0, none⟩)))
    (first | exact c0 | exact c8 | assumption | exact cell_far c8 _ (by omega))
    (first
      | (go_at_call 136; refine C.out.mono ?_; rintro e w1 l1
         have L1 := lH l1
         have q := H.out.drew.only l1.2.2 G.out
         have f9 := q.fr 1
         have c9 := q.er
         have c8 := q.d
         clear q
         obtain ⟨rfl, _, _⟩ := l1))
   go_end0
   exact ⟨rfl, LeftP.from B.out.drew (LeftP.step H.out.drew G.out L1.out)⟩
 · rw [if_neg he]
   have H := lH (LeftP.below hb h d)
   have he' : (e == 0) = false := by rw [beq_eq_false_iff_ne]; exact he
   have W0 := lH hw0
   clear h hg d ok hB hN d0 h0 hb hw0
   go_enter Tryz.func105, Tryz.ntmps105
   go_upto_region 1 with fail
   rw [W0.out]
   go_wp2_with fail
   go_end0
   exact ⟨rfl, H.out⟩
theorem pord_any (p : Pt) (i : Int) (d : Z.D w gd S n p.m) (ok : p.m.Ok n) (hi : -9223372036854775808 <= i /\ i <= 9223372036854775807) (h : PoB w g gd p.e cs t) (hg : ¬ S g) :
 Calls Tryz.prog 139 #[.pointer (some ⟨g, 0, none⟩), .int .i64 i] w fun e w' => e = .returned (.agg (cellsB (p.rdS n i)).toArray) /\ LeftP Z w g gd S n cs t (p.rd n i) w' := by
 obtain ⟨m, e⟩ := p
 obtain ⟨w0, hw0⟩ : ∃ w0, (w.alloc (.cells (cellsB zsec).toArray 185)).alloc (.cells (cellsB zsec).toArray 185) = w0 := ⟨_, rfl⟩
 have hb : Below w.heap.size w w0 := by rw [<- hw0]; exact ((Below.refl _ _).alloc (Nat.le_refl _) _).alloc (by simp) _
 have hr : Bw w0 w.heap.size 185 zsec := by rw [<- hw0]; exact (Bw.new w zsec _).alloc _
 have hv : Bw w0 (w.heap.size + 1) 185 zsec := by rw [<- hw0]; exact bw_second w zsec zsec _ _
 have h0 := h.below hb
 have d0 : Z.D w0 gd S n m := Z.only d (Only.of_below (S := fun _ => False) hb (Nat.le_refl _)) (fun _ _ h => h)
 have hlt := h.lt
 have c0 := h0.d
 have c1 := h0.er
 have f1 := h0.fr 1
 have W0 := lH hw0
 obtain ⟨i1, i2⟩ := hi
 unfold Pt.rd Pt.rdS
 have hbl : ∀ w', Only (fun k => k = w.heap.size \/ k = w.heap.size + 1) w0 w' -> LeftP Z w g gd S n cs t ⟨m, e⟩ w' := fun w' ho => by
  have hb2 : Below w.heap.size w w' := hb.trans (ho.to_below (fun k hk => by omega) hb.size)
  exact LeftP.below hb2 h d
 by_cases he : e = 0
 · subst he
   rw [if_pos rfl]
   have C := lH (Z.read_any i d0 ok ⟨i1, i2⟩)
   obtain ⟨z, hz⟩ : ∃ z, m.readE n i = z := ⟨_, rfl⟩
   obtain ⟨l, hl⟩ : ∃ l, lst (m.readS n i) = l := ⟨_, rfl⟩
   obtain ⟨s, hs⟩ : ∃ s, (if (0 : Int) = 0 /\ m.readE n i = 0 then lst (m.readS n i) else zsec) = s := ⟨_, rfl⟩
   have hls : l.length <= 512 /\ over zsec 0 l = s /\ s.length = 512 := by
    by_cases hz0 : m.readE n i = 0
    · have h5 : l.length = 512 := by
       have hi : 0 <= i /\ i < n := by
        unfold RM.readE at hz0
        split at hz0
        · cases hz0
        · split at hz0
          · cases hz0
          · omega
       rw [<- hl, lst_len']
       unfold RM.readS RM.at_
       rw [if_pos hz0]
       split
       · exact ok.lsz' (by omega)
       · rename_i hw
         exact (ok.wsz' (i := i.toNat) (by omega)).resolve_left hw
      rw [if_pos ⟨rfl, hz0⟩] at hs
      rw [<- hs, hl]
      refine ⟨by omega, ?_, h5⟩
      unfold over
      rw [List.take_zero, List.nil_append, Nat.zero_add, List.drop_eq_nil_of_le (by rw [zsec_len, h5]; exact Nat.le_refl _), List.append_nil]
    · have h5 : l = [] := by
       rw [<- hl]
       unfold RM.readS
       rw [if_neg hz0]
       rfl
      rw [if_neg (fun hh => hz0 hh.2)] at hs
      rw [<- hs, h5]
      exact ⟨Nat.zero_le _, over_nil _ _, zsec_len⟩
   rw [hz, hl] at C
   rw [hs, hz]
   obtain ⟨hls1, hls2, hls3⟩ := hls
   have HS2 := lH hls2
   have HS3 := lH hls3
   have HF : Hid (∀ w1 w4, Below w0.heap.size w0 w1 -> Only (fun k => k = w.heap.size \/ k = w.heap.size + 1) (w1.setCell ⟨g, 1, none⟩ (.int .i64 z)) w4 -> LeftP Z w g gd S n cs t ⟨m, z⟩ w4) := lH (fun w1 w4 hb1 ho => by
    have hbb : Below w.heap.size w w1 := hb.trans (hb1.mono hb.size)
    have h1 := (h0.below hb1).put z
    have d1 : Z.D w1 gd S n m := Z.only d0 (Only.of_below (S := fun _ => False) hb1 (Nat.le_refl _)) (fun _ _ h => h)
    have d2 : Z.D (w1.setCell ⟨g, 1, none⟩ (.int .i64 z)) gd S n m := Z.only d1 ((Only.refl (fun k => k = g) w1).setCell (p := ⟨g, 1, none⟩) rfl _) (fun k hk e => hg (e ▸ hk))
    have o2 : Only (fun k => S k \/ k = g) w (w1.setCell ⟨g, 1, none⟩ (.int .i64 z)) := (Only.of_below hbb (Nat.le_refl _)).setCell (.inr rfl) _
    exact ⟨S, Z.only d2 ho (fun k hk hh => by have := Z.lt d _ hk; omega), fun _ hk => .inl hk, h1.only ho (by omega), o2.belowT (ho.to_below (fun k hk => by omega) o2.size)⟩)
   have H0 := lH h0
   have HR := lH hr
   have HV := lH hv
   have hv0 : w.heap.size + 1 < w0.heap.size := hv.lt
   have h0lt : g < w0.heap.size := h0.lt
   clear h hg d ok d0 h0 hb hw0 hr hv hbl hz hl hs hls2 hls3
   go_enter Tryz.func139, Tryz.ntmps139
   go_upto_region 2 with fail
   rw [zc97, W0.out]
   go_wp2_with (first
    | (go_at_call 162; refine C.out.mono ?_; rintro e w1 ⟨A1, n1, c1, rfl, own1, b1⟩
       have q := H0.out.below b1
       have f9 := q.fr 1
       have c9 := q.er
       have c8 := q.d
       have HN1 := lH own1.len
       have OX : Hid (HasB (w1.setCell ⟨g, 1, none⟩ (.int .i64 z)) w1.heap.size A1 n1 l) := lH (own1.hasOff b1 h0lt)
       have HV1 : Hid (Bw (w1.setCell ⟨g, 1, none⟩ (.int .i64 z)) (w.heap.size + 1) 185 zsec) := lH ((HV.out.below b1 HV.out.lt).far (show w.heap.size + 1 ≠ g by omega) _)
       have HR1 : Hid (Bw (w1.setCell ⟨g, 1, none⟩ (.int .i64 z)) w.heap.size 185 zsec) := lH ((HR.out.below b1 HR.out.lt).far (show w.heap.size ≠ g by omega) _)
       have B1 := lH b1
       clear q own1 b1)
    | (refine wp_copyB rfl (.tmp 24) (.tmp 25) rfl Tryz.underlying34 hsz1 (w.heap.size + 1) 0 512 512 _ zsec l HV1.out rfl _ A1 n1 c1 rfl OX.out (by have := HN1.out; omega) (by have := HN1.out; rw [zsec_len]; omega) ?_
       intro w2 h2 o2
       rw [HS2.out] at h2
       have H2 := lH h2
       have HR2 := lH (HR1.out.keepO o2 (by omega))
       have O2 := lH o2
       clear h2 o2)
    | (refine wp_load_sec rfl (.tmp 5) rfl (w.heap.size + 1) rfl _ s H2.out HS3.out ?_)
    | (refine wp_store_sec rfl (.tmp 4) (.tmp 27) rfl w.heap.size s rfl rfl _ zsec HR2.out zsec_len HS3.out ?_; intro w3 h3 o3))
   refine bodyPost_ret (v := .agg (cellsB s).toArray) (res_sec (p := 4) rfl _ rfl h3 HS3.out) (by rfl) ?_
   exact ⟨rfl, HF.out w1 w3 B1.out ((O2.out.mono (fun k _ hk => .inr hk)).trans (o3.mono (fun k _ hk => .inl hk)))⟩
 · rw [if_neg (fun hh => he hh.1), if_neg he]
   have he' : (e == 0) = false := by rw [beq_eq_false_iff_ne]; exact he
   have HR := lH hr
   have HV := lH hv
   have HL := lH hbl
   clear h hg d ok d0 h0 hb hw0 hr hv hbl
   go_enter Tryz.func139, Tryz.ntmps139
   go_upto_region 2 with fail
   rw [zc97, W0.out]
   go_wp2_with (first
    | (refine wp_load_sec rfl (.tmp 5) rfl (w.heap.size + 1) rfl _ zsec HV.out zsec_len ?_)
    | (refine wp_store_sec rfl (.tmp 4) (.tmp 27) rfl w.heap.size zsec rfl rfl _ zsec HR.out zsec_len zsec_len ?_; intro w2 h2 o2))
   refine bodyPost_ret (v := .agg (cellsB zsec).toArray) (res_sec (p := 4) rfl _ rfl h2 zsec_len) (by rfl) ?_
   exact ⟨rfl, HL.out w2 (o2.mono (fun k _ hk => .inl hk))⟩
end
def mkC (k : Mk) : Array Value := #[.int .u64 (k.num : Int), .int .u64 (k.turn : Int), .int .u32 (k.pos : Int), .int .u32 (k.ring : Int)]
structure Mk.Fit (k : Mk) : Prop where
 n : k.num < 18446744073709551616
 t : k.turn < 18446744073709551616
 p : k.pos < 4294967296
 r : k.ring < 4294967296
def RetV2 (w : World) (v : Value) (e : Ending) (w' : World) : Prop := e = .returned v /\ Below w.heap.size w w'
theorem ahead_any (k : Mk) (i : Nat) (w : World) (h : k.Fit) (hr : 0 < k.ring) (hi : i <= 4294967296) : Calls Tryz.prog 118 #[.agg (mkC k), .int .i64 (i : Int)] w (RetV2 w (.int .u32 (k.ahead i : Nat))) := by
 obtain ⟨s, t, p, r⟩ := k
 have hp : p < 4294967296 := h.p
 have hr2 : r < 4294967296 := h.r
 have hr' : 0 < r := hr
 obtain ⟨z, hz⟩ : ∃ z, (p + i) % r = z := ⟨_, rfl⟩
 have hz1 : z < r := by rw [<- hz]; exact Nat.mod_lt _ hr'
 have hz2 : ((p : Int) + (i : Int)) % (r : Int) = (z : Int) := by rw [<- hz]; simp
 unfold Mk.ahead mkC
 show Calls _ _ _ _ (RetV2 w (.int .u32 (((p + i) % r : Nat) : Int)))
 rw [hz]
 clear h hr hz
 go_enter Tryz.func118, Tryz.ntmps118
 go_wp2_with fail
 go_ret
 exact ⟨rfl, (Below.refl _ _).alloc (Nat.le_refl _) _⟩
theorem load_mk {w : World} {g : Nat} {k : Mk} (hB : w.heap[g]? = some (.cells (mkC k) 137 (0, 0))) : (loadVar 137 ⟨g, 0, none⟩).run Tryz.prog w = .ok (.agg (mkC k)) w :=
 run_loadVar_row w g _ _ _ (0, 0) _ hB Tryz.underlying137 rfl (by kernel_rfl)
theorem infoMk : (Tryz.prog.info? 137).map (·.size) = some 4 := by kernel_rfl
theorem inRing_any (k : Mk) (i : Nat) (w : World) (h : k.Fit) (hr : 0 < k.ring) (hi : i <= 4294967296) : Calls Tryz.prog 115 #[.agg (mkC k), .int .i64 (i : Int)] w (RetV2 w (.int .i64 (k.inRing i : Nat))) := by
 obtain ⟨w0, hw0⟩ : ∃ w0, w.alloc (.cells (mkC k) 137) = w0 := ⟨_, rfl⟩
 have hb : Below w.heap.size w w0 := by rw [<- hw0]; exact (Below.refl _ _).alloc (Nat.le_refl _) _
 have hB : w0.heap[w.heap.size]? = some (.cells (mkC k) 137 (0, 0)) := by rw [<- hw0]; exact heap_alloc_new w _
 have C := lH (ahead_any k i w0 h hr hi)
 have hl : k.ahead i < 4294967296 := Nat.lt_trans (Nat.mod_lt _ hr) h.r
 unfold Mk.inRing
 obtain ⟨z, hz⟩ : ∃ z, k.ahead i = z := ⟨_, rfl⟩
 rw [hz] at C hl ⊢
 have HB := lH hB
 have B0 := lH hb
 have W0 := lH hw0
 clear hB hb hw0 hz h hr
 go_enter Tryz.func115, Tryz.ntmps115
 go_upto_region 1 with fail
 rw [W0.out]
 go_wp2_with (first
  | (refine wpList_load_row rfl 137 (.tmp 2) rfl w.heap.size rfl _ (mkC k) (0, 0) _ HB.out Tryz.underlying137 rfl infoMk ?_)
  | (go_at_call 118; refine C.out.mono ?_; rintro e w1 ⟨rfl, b1⟩))
 go_ret
 exact ⟨rfl, B0.out.trans (b1.mono B0.out.size)⟩
theorem atHome_any (k : Mk) (i : Nat) (w : World) (h : k.Fit) (hi : i <= 4294967296) : Calls Tryz.prog 114 #[.agg (mkC k), .int .i64 (i : Int)] w (RetV2 w (.int .i64 (k.atHome i : Nat))) := by
 obtain ⟨s, t, p, r⟩ := k
 have hr2 : r < 4294967296 := h.r
 unfold Mk.atHome mkC
 show Calls _ _ _ _ (RetV2 w (.int .i64 ((2 + r + i : Nat) : Int)))
 clear h
 go_enter Tryz.func114, Tryz.ntmps114
 go_wp2_with fail
 go_ret
 refine ⟨?_, (Below.refl _ _).alloc (Nat.le_refl _) _⟩
 simp
section
variable {Z : DK} {w w' : World} {gd n : Nat} {S : Nat -> Prop} {m : RM}
theorem fits_any (ring : Int) (d : Z.D w gd S n m) (ok : m.Ok n) (hr : -9223372036854775808 <= ring /\ ring <= 9223372036854775807) : Calls Tryz.prog 102 #[.pointer (some ⟨gd, 0, none⟩), .int .i64 ring] w (RetW w (.bool (fitsB n ring))) := by
 have C := lH (Z.len_q d ok)
 have n1 := ok.n1
 have n2 := ok.n2
 obtain ⟨r1, r2⟩ := hr
 have N := lH d
 unfold fitsB
 clear d ok
 by_cases h1 : 8 <= ring
 · by_cases h2 : ring <= 1024
   · obtain ⟨b, hb⟩ : ∃ b, decide (8 <= ring /\ ring <= 1024 /\ (n : Int) - 2 - ring ≥ 8) = b := ⟨_, rfl⟩
     have hb' : decide (8 <= (n : Int) - 2 - ring) = b := by rw [<- hb, Bool.eq_iff_iff, decide_eq_true_iff, decide_eq_true_iff]; omega
     rw [hb]
     clear hb
     have HB := lH hb'
     clear hb'
     go_enter Tryz.func102, Tryz.ntmps102
     go_wp2_with (go_at_call 103; refine C.out.mono ?_; rintro e w1 ⟨rfl, rfl⟩)
     go_ret
     refine ⟨?_, rfl⟩
     rw [<- HB.out]
     simp
   · rw [decide_eq_false (by omega)]
     have h2' : decide (ring <= 1024) = false := decide_eq_false h2
     go_enter Tryz.func102, Tryz.ntmps102
     go_wp2_with fail
     go_ret
     exact ⟨rfl, rfl⟩
 · rw [decide_eq_false (by omega)]
   have h1' : decide (8 <= ring) = false := decide_eq_false h1
   go_enter Tryz.func102, Tryz.ntmps102
   go_wp2_with fail
   go_ret
   exact ⟨rfl, rfl⟩
end
def RetSec (w : World) (s : List UInt8) (e : Ending) (w' : World) : Prop := e = .returned (.agg (cellsB s).toArray) /\ Below w.heap.size w w'
theorem tagged_any (s : List UInt8) (t : Nat) (w : World) (hs : s.length = 512) (ht : t < 9223372036854775808) : Calls Tryz.prog 116 #[.agg (cellsB s).toArray, .int .u64 (t : Int)] w (RetSec w (tagged s t)) := by
 obtain ⟨w0, hw0⟩ : ∃ w0, (w.alloc (.cells (cellsB s).toArray 185)).alloc (.cells (cellsB zsec).toArray 185) = w0 := ⟨_, rfl⟩
 have hb : Below w.heap.size w w0 := by rw [<- hw0]; exact ((Below.refl _ _).alloc (Nat.le_refl _) _).alloc (by simp) _
 have h1 : Bw w0 w.heap.size 185 s := by rw [<- hw0]; exact (Bw.new w s _).alloc _
 have h2 : Bw w0 (w.heap.size + 1) 185 zsec := by rw [<- hw0]; exact bw_second w s zsec _ _
 have C1 := lH (ringTag_any t w0 ht)
 have C2 := lH (sput_any 0 (2 * t) 8 h1 hs (by omega) (by omega) (by omega) (by omega) (by omega))
 have HT : Hid (over s 0 (be 8 (2 * t)) = tagged s t) := lH rfl
 have HL := lH (tagged_len hs t)
 rw [HT.out] at C2
 obtain ⟨y, hy⟩ : ∃ y, tagged s t = y := ⟨_, rfl⟩
 obtain ⟨t2, ht2⟩ : ∃ t2, 2 * t = t2 := ⟨_, rfl⟩
 rw [hy] at C2 HL ⊢
 rw [ht2] at C2 C1
 have H2 := lH h2
 have B0 := lH hb
 have W0 := lH hw0
 clear h1 h2 hb hw0 hy ht2 HT
 go_enter Tryz.func116, Tryz.ntmps116
 go_upto_region 1 with fail
 rw [zc97, W0.out]
 go_wp2_with (first
  | (go_at_call 144; refine C1.out.mono ?_; rintro e w1 ⟨rfl, rfl⟩)
  | (go_at_call 147; refine C2.out.mono ?_; rintro e w2 ⟨rfl, q1, o1⟩
     have Q1 := lH q1
     have Q2 := lH (H2.out.keepO o1 (by omega))
     have B2 := lH (B0.out.trans (o1.to_below (fun k hk => by omega) B0.out.size))
     clear q1 o1)
  | (refine wp_load_sec rfl (.tmp 2) rfl w.heap.size rfl _ y Q1.out HL.out ?_)
  | (refine wp_store_sec rfl (.tmp 4) (.tmp 8) rfl (w.heap.size + 1) y rfl rfl _ zsec Q2.out zsec_len HL.out ?_; intro w3 h3 o3))
 refine bodyPost_ret (v := .agg (cellsB y).toArray) (res_sec (p := 4) rfl _ rfl h3 HL.out) (by rfl) ?_
 exact ⟨rfl, B2.out.trans (o3.to_below (fun k hk => by omega) B2.out.size)⟩
theorem stillA {P : Program} {o : Oper} {a : Act} {w : World} {K : Act -> Prop} {arr : TypeId} {x : Operand} (ho : o.op = .sliceToArrayPointer arr x) {v : Value} (hr : (Instr.arrayAt arr (a.eval x)).run P w = .ok v w) (h : K (a.put o.dst v)) : o.still P a w K := by
 unfold Oper.still execOp
 simp only [ho, Sem.run_bind, Sem.run_pure, Result.andThen_ok, hr]
 exact ⟨rfl, h⟩
theorem stillLd {P : Program} {o : Oper} {a : Act} {w : World} {K : Act -> Prop} {ty : TypeId} {x : Operand} (ho : o.op = .load ty x) {ad : Addr} (hy : a.eval x = .pointer (some ad)) {v : Value} (hr : (loadVar ty ad).run P w = .ok v w) (h : K (a.put o.dst v)) : o.still P a w K := by
 unfold Oper.still execOp
 simp only [ho, hy, Instr.loadAt, Instr.sureAddr, Sem.run_bind, Sem.run_pure, Result.andThen_ok, hr]
 exact ⟨rfl, h⟩
theorem RetW.still {f : FuncId} {args : Array Value} {w : World} {v : Value} (h : Calls Tryz.prog f args w (RetW w v)) : Calls Tryz.prog f args w (fun e w'' => e = .returned v /\ w'' = w) := h.mono fun _ _ ⟨h1, h2⟩ => ⟨h1, h2.symm⟩
theorem load_eight {w : World} {g p : Nat} {t : TypeId} {s : List UInt8} (hB : Bw w g t s) (hp : p + 8 <= s.length) : (loadVar 173 ⟨g, p, none⟩).run Tryz.prog w = .ok (.agg (cellsB (sub s p 8)).toArray) w := by
 have hl : (sub s p 8).length = 8 := sub_len hp
 refine run_loadVar_part w g p t _ (cellsB s) (cellsB (sub s p 8)) (0, 0) _ hB Tryz.underlying173 rfl (by rw [cellsB_length, hl]; kernel_rfl) (fun j v hv => ?_)
 obtain ⟨b, hb, rfl⟩ := cellsB_at hv
 unfold sub at hb
 rw [List.getElem?_take] at hb
 split at hb
 · rw [List.getElem?_drop] at hb
   unfold cellsB
   rw [List.getElem?_map, hb]
   rfl
 · cases hb
theorem res_tc {fn : Func} {p q : Tmp} {ty : TypeId} (h : fn.results = #[.tmp p, .cell q ty]) (tmps : Array Value) (w : World) (g : Nat) (v u : Value) (hp : tmps.getD p undef = v)
 (hq : tmps.getD q undef = .pointer (some ⟨g, 0, none⟩)) (hl : (loadVar ty ⟨g, 0, none⟩).run Tryz.prog w = .ok u w) :
 (results fn tmps).run Tryz.prog w = .ok (.tuple #[v, u]) w := by
 have hp' : tmps[p]?.getD undef = v := by simpa using hp
 have hq' : tmps[q]?.getD undef = .pointer (some ⟨g, 0, none⟩) := by simpa using hq
 simp [results, h, hp', hq', asAddr, hl]
section
variable {w : World} {g : Nat} {s : List UInt8}
theorem row_any (k : Nat) (h : Bw w g 185 s) (hs : s.length = 512) (hk : k < 40) :
 Calls Tryz.prog 143 #[.pointer (some ⟨g, 0, none⟩), .int .i64 (k : Int)] w (RetV2 w (.tuple #[.int .i64 (num (sub s (16 + 12 * k) 4) : Nat), .agg (cellsB (sub s (16 + 12 * k + 4) 8)).toArray])) := by
 obtain ⟨w0, hw0⟩ : ∃ w0, w.alloc (.cells #[.int .u8 0, .int .u8 0, .int .u8 0, .int .u8 0, .int .u8 0, .int .u8 0, .int .u8 0, .int .u8 0] 173) = w0 := ⟨_, rfl⟩
 have hb : Below w.heap.size w w0 := by rw [<- hw0]; exact (Below.refl _ _).alloc (Nat.le_refl _) _
 have h1 : Bw w0 g 185 s := by rw [<- hw0]; exact h.alloc _
 have h2 : Bw w0 w.heap.size 173 (zer 8) := by rw [<- hw0]; exact Bw.new w (zer 8) _
 obtain ⟨p, hp⟩ : ∃ p, 16 + 12 * k = p := ⟨_, rfl⟩
 have hp1 : p + 12 <= 512 := by omega
 have hp2 : (16 : Int) + 12 * (k : Int) = (p : Int) := by omega
 have hx : num (sub s p 4) < 4294967296 := by
  have := num_lt (sub s p 4)
  rw [sub_len (by omega)] at this
  omega
 have hl8 : (sub s (p + 4) 8).length = 8 := sub_len (by omega)
 rw [hp]
 have C := lH (RetW.still (snum_any (w := w0.drew) (g := g) p 4 h1 hs (by omega) (by omega) (by omega)))
 have L := lH (load_eight (w := w0.drew) (p := p + 4) h1 (by omega))
 obtain ⟨x, hx'⟩ : ∃ x, num (sub s p 4) = x := ⟨_, rfl⟩
 obtain ⟨y, hy'⟩ : ∃ y, sub s (p + 4) 8 = y := ⟨_, rfl⟩
 rw [hx'] at C hx ⊢
 rw [hy'] at L hl8 ⊢
 have HX := lH hx
 have HL := lH hl8
 have H2 := lH h2
 have B0 := lH hb
 have W0 := lH hw0
 have HP := lH hp1
 have hp3 : ((p : Int) + 4) <= 512 := by omega
 have hp4 : ¬ (512 = p + 4) := by omega
 have hp6 : IntKind.i64.wrap ((p : Int) + 4) = (p : Int) + 4 := by rw [IntKind.wrap_i64]; omega
 have hp7 : ((p : Int) + 4).toNat = p + 4 := by omega
 have hp8 : (0 : Int) <= (p : Int) + 4 := by omega
 have hp5 : (8 : Int) <= 512 - ((p : Int) + 4) := by omega
 have hAr : ∀ W, (Instr.arrayAt 173 (.slice (some ⟨g, p + 4, none⟩) (508 - p) (508 - p))).run Tryz.prog W = .ok (.pointer (some ⟨g, p + 4, none⟩)) W := by
  intro W
  unfold Instr.arrayAt
  simp [run_underlying Tryz.underlying173]
  omega
 have AR := lH hAr
 clear hAr
 have hxi : IntKind.i64.wrap (x : Int) = (x : Int) := by rw [IntKind.wrap_i64]; omega
 clear h h1 h2 hb hw0 hx' hy' hx hl8 hp hp1
 go_enter Tryz.func143, Tryz.ntmps143
 go_upto_region 1 with fail
 rw [W0.out]
 go_wp2_with fail
 go_still_tail 12, (by kernel_rfl)
 still_call C.out
 repeat still_step
 refine wpStill_step (fun K hK => ?_)
 refine stillA rfl (AR.out _) ?_
 refine hK _ ?_
 clear hK K
 refine wpStill_step (fun K hK => ?_)
 refine stillLd rfl rfl L.out ?_
 refine hK _ ?_
 clear hK K
 repeat still_step
 refine wpStill_nil ?_
 change wpList _ _ _ _ _ w0.drew
 try simp only [aP,aN,aS,aZ,aC]
 have H2d : Hid (Bw w0.drew w.heap.size 173 (zer 8)) := lH H2.out
 go_wp2_with (refine wpList_store_row rfl 173 (.tmp 5) (.tmp 20) rfl w.heap.size (cellsB y).toArray rfl rfl _ _ H2d.out (by rw [cellsB_size, HL.out]; kernel_rfl) (by rw [cellsB_size, cellsB_size, HL.out]; rfl) (cellsB_ones y) ?_)
 have H3 : Bw (w0.drew.setRow w.heap.size (cellsB y).toArray) w.heap.size 173 y := H2d.out.row
 refine bodyPost_ret (v := .tuple #[.int .i64 (x : Int), .agg (cellsB y).toArray]) (res_tc (p := 4) (q := 5) (ty := 173) rfl _ _ w.heap.size _ _ rfl rfl (run_loadVar_row _ _ _ _ _ (0, 0) _ H3 Tryz.underlying173 rfl (by rw [cellsB_size, HL.out]; kernel_rfl))) (by rfl) ?_
 exact ⟨rfl, below_setRow B0.out.drew (Nat.le_refl _) _⟩
theorem anchor_any (k : Mk) (w : World) (h : k.Fit) : Calls Tryz.prog 137 #[.agg (mkC k)] w (RetSec w k.anc) := by
 obtain ⟨w0, hw0⟩ : ∃ w0, ((w.alloc (.cells (mkC k) 137)).alloc (.cells (cellsB zsec).toArray 185)).alloc (.cells (cellsB zsec).toArray 185) = w0 := ⟨_, rfl⟩
 have hb : Below w.heap.size w w0 := by rw [<- hw0]; exact (((Below.refl _ _).alloc (Nat.le_refl _) _).alloc (by simp) _).alloc (by simp; omega) _
 have hm : w0.heap[w.heap.size]? = some (.cells (mkC k) 137 (0, 0)) := by
  rw [<- hw0]
  exact (Below.heap_alloc _ _ _ (by simp; omega)).trans ((Below.heap_alloc _ _ _ (by simp)).trans (heap_alloc_new w _))
 have h1 : Bw w0 (w.heap.size + 1) 185 zsec := by rw [<- hw0]; have := (Bw.new (w.alloc (.cells (mkC k) 137)) zsec 185).alloc (.cells (cellsB zsec).toArray 185); simpa using this
 have h2 : Bw w0 (w.heap.size + 1 + 1) 185 zsec := by rw [<- hw0]; have := bw_second (w.alloc (.cells (mkC k) 137)) zsec zsec 185 185; simpa using this
 obtain ⟨s, t, p, r⟩ := k
 have hs : s < 18446744073709551616 := h.n
 have ht : t < 18446744073709551616 := h.t
 have hp : p < 4294967296 := h.p
 have hr : r < 4294967296 := h.r
 obtain ⟨S1, hS1⟩ : ∃ S1, setTag zsec s = S1 := ⟨_, rfl⟩
 obtain ⟨S2, hS2⟩ : ∃ S2, over S1 8 (be 8 t) = S2 := ⟨_, rfl⟩
 obtain ⟨S3, hS3⟩ : ∃ S3, over S2 16 (be 4 p) = S3 := ⟨_, rfl⟩
 obtain ⟨S4, hS4⟩ : ∃ S4, over S3 20 (be 4 r) = S4 := ⟨_, rfl⟩
 have l1 : S1.length = 512 := by rw [<- hS1]; exact setTag_len zsec_len
 have l2 : S2.length = 512 := by rw [<- hS2]; exact over_be l1 (by omega)
 have l3 : S3.length = 512 := by rw [<- hS3]; exact over_be l2 (by omega)
 have l4 : S4.length = 512 := by rw [<- hS4]; exact over_be l3 (by omega)
 have e0 : (Mk.mk s t p r).anc = S4 := by
  show over (over (over (setTag zsec s) 8 (be 8 t)) 16 (be 4 p)) 20 (be 4 r) = S4
  rw [hS1, hS2, hS3, hS4]
 rw [e0]
 have C1 : Hid (∀ W, Bw W (w.heap.size + 1 + 1) 185 zsec -> Calls Tryz.prog 148 #[.pointer (some ⟨w.heap.size + 1 + 1, 0, none⟩), .int .u64 (s : Int)] W (RetS W (w.heap.size + 1 + 1) S1)) := lH (fun W hW => by have := sset_any s hW zsec_len hs; rwa [hS1] at this)
 have C2 : Hid (∀ W, Bw W (w.heap.size + 1 + 1) 185 S1 -> Calls Tryz.prog 147 #[.pointer (some ⟨w.heap.size + 1 + 1, 0, none⟩), .int .i64 8, .int .u64 (t : Int), .int .i64 8] W (RetS W (w.heap.size + 1 + 1) S2)) := lH (fun W hW => by have := sput_any 8 t 8 hW l1 ht (by omega) (by omega) (by omega) (by omega); rwa [hS2] at this)
 have C3 : Hid (∀ W, Bw W (w.heap.size + 1 + 1) 185 S2 -> Calls Tryz.prog 147 #[.pointer (some ⟨w.heap.size + 1 + 1, 0, none⟩), .int .i64 16, .int .u64 (p : Int), .int .i64 4] W (RetS W (w.heap.size + 1 + 1) S3)) := lH (fun W hW => by have := sput_any 16 p 4 hW l2 (by omega) (by omega) (by omega) (by omega) (by omega); rwa [hS3] at this)
 have C4 : Hid (∀ W, Bw W (w.heap.size + 1 + 1) 185 S3 -> Calls Tryz.prog 147 #[.pointer (some ⟨w.heap.size + 1 + 1, 0, none⟩), .int .i64 20, .int .u64 (r : Int), .int .i64 4] W (RetS W (w.heap.size + 1 + 1) S4)) := lH (fun W hW => by have := sput_any 20 r 4 hW l3 (by omega) (by omega) (by omega) (by omega) (by omega); rwa [hS4] at this)
 have L4 := lH l4
 have HM := lH hm
 have H1 := lH h1
 have H2 := lH h2
 have B0 := lH hb
 have W0 := lH hw0
 have mc : ∀ W : World, W.heap[w.heap.size]? = some (.cells (mkC ⟨s, t, p, r⟩) 137 (0, 0)) -> W.cell? ⟨w.heap.size, 0, none⟩ = some (.int .u64 (s : Int)) /\ W.cell? ⟨w.heap.size, 1, none⟩ = some (.int .u64 (t : Int)) /\ W.cell? ⟨w.heap.size, 2, none⟩ = some (.int .u32 (p : Int)) /\ W.cell? ⟨w.heap.size, 3, none⟩ = some (.int .u32 (r : Int)) := fun W hW =>
  ⟨cell_of_row W _ 0 _ _ (0, 0) hW, cell_of_row W _ 1 _ _ (0, 0) hW, cell_of_row W _ 2 _ _ (0, 0) hW, cell_of_row W _ 3 _ _ (0, 0) hW⟩
 obtain ⟨m0, _, _, _⟩ := mc w0 hm
 have MC := lH mc
 clear h hm h1 h2 hb hw0 hS1 hS2 hS3 hS4 l1 l2 l3 l4 e0 mc
 go_enter Tryz.func137, Tryz.ntmps137
 go_upto_region 2 with fail
 rw [zc97]
 unfold mkC at W0 ⊢
 rw [W0.out]
 go_wp2_with (first
  | (go_at_call 148; refine (C1.out _ H2.out).mono ?_; rintro e w1 ⟨rfl, q1, o1⟩
     have Q1 := lH q1
     have HM1 := lH ((o1.block _ (Array.getElem?_eq_some_iff.1 HM.out).1 (by omega)).trans HM.out)
     obtain ⟨_, m1, _, _⟩ := MC.out w1 HM1.out
     have O1 := lH o1
     clear q1 o1)
  | (go_at_call_of 147 (Value.int .i64 20); refine (C4.out _ Q3.out).mono ?_; rintro e w4 ⟨rfl, q4, o4⟩
     have Q4 := lH q4
     have O4 := lH o4
     have OO := lH (((O1.out.trans O2.out).trans O3.out).trans O4.out)
     have H14 := lH (H1.out.keepO OO.out (by omega))
     clear q4 o4)
  | (go_at_call_of 147 (Value.int .i64 16); refine (C3.out _ Q2.out).mono ?_; rintro e w3 ⟨rfl, q3, o3⟩
     have Q3 := lH q3
     have HM3 := lH ((o3.block _ (Array.getElem?_eq_some_iff.1 HM2.out).1 (by omega)).trans HM2.out)
     obtain ⟨_, _, _, m3⟩ := MC.out w3 HM3.out
     have O3 := lH o3
     clear q3 o3)
  | (go_at_call 147; refine (C2.out _ Q1.out).mono ?_; rintro e w2 ⟨rfl, q2, o2⟩
     have Q2 := lH q2
     have HM2 := lH ((o2.block _ (Array.getElem?_eq_some_iff.1 HM1.out).1 (by omega)).trans HM1.out)
     obtain ⟨_, _, m2, _⟩ := MC.out w2 HM2.out
     have O2 := lH o2
     clear q2 o2)
  | (refine wp_load_sec rfl (.tmp 3) rfl (w.heap.size + 1 + 1) rfl _ S4 Q4.out L4.out ?_)
  | (refine wp_store_sec rfl (.tmp 2) (.tmp 18) rfl (w.heap.size + 1) S4 rfl rfl _ zsec H14.out zsec_len L4.out ?_; intro w5 h5 o5))
 refine bodyPost_ret (v := .agg (cellsB S4).toArray) (res_sec (p := 2) rfl _ rfl h5 L4.out) (by rfl) ?_
 have b4 := B0.out.trans (OO.out.to_below (B := w.heap.size) (fun k hk => by omega) B0.out.size)
 exact ⟨rfl, b4.trans (o5.to_below (fun k hk => by omega) b4.size)⟩
end
def chC (c : Ch) : List Value := .int .i64 (c.home : Int) :: cellsB c.data
def rowC (l : List Ch) : List Value := l.flatMap chC
def ChOk (l : List Ch) : Prop := ∀ c ∈ l, c.data.length = 512
theorem chC_len {c : Ch} (h : c.data.length = 512) : (chC c).length = 513 := by simp [chC, cellsB_length, h]
theorem chC_one (c : Ch) : ∀ v ∈ chC c, v.oneCell' = true := by
 intro v hv
 unfold chC at hv
 rcases List.mem_cons.1 hv with rfl | hv
 · rfl
 · exact cellsB_one _ v hv
theorem rowC_snoc (l : List Ch) (c : Ch) : rowC (l ++ [c]) = rowC l ++ chC c := by simp [rowC]
theorem rowC_sub : ∀ {l : List Ch}, ChOk l -> ∀ {k : Nat} {c : Ch}, l[k]? = some c -> ∀ j v, (chC c)[j]? = some v -> (rowC l)[k * 513 + j]? = some v
 | [], _, k, c, h, _, _, _ => by simp at h
 | d :: r, hs, 0, c, h, j, v, hv => by
   simp only [List.getElem?_cons_zero, Option.some.injEq] at h
   subst h
   have h1 : rowC (d :: r) = chC d ++ rowC r := by simp [rowC]
   rw [h1, Nat.zero_mul, Nat.zero_add, List.getElem?_append_left (List.getElem?_eq_some_iff.1 hv).1]
   exact hv
 | d :: r, hs, k + 1, c, h, j, v, hv => by
   have h1 : rowC (d :: r) = chC d ++ rowC r := by simp [rowC]
   have h2 : (chC d).length = 513 := chC_len (hs d (by simp))
   rw [h1, List.getElem?_append_right (by omega), h2, show (k + 1) * 513 + j - 513 = k * 513 + j by omega]
   exact rowC_sub (fun e he => hs e (by simp [he])) (by simpa using h) j v hv
def CB (w : World) (g : Nat) (l : List Ch) : Prop := ∃ E : List Value, w.heap[g]? = some (.cells (rowC l ++ E).toArray 196 (0, 0))
theorem CB.lt {w : World} {g : Nat} {l : List Ch} (h : CB w g l) : g < w.heap.size := by
 obtain ⟨E, h⟩ := h
 exact (Array.getElem?_eq_some_iff.1 h).1
theorem CB.only {w w' : World} {S : Nat -> Prop} {g : Nat} {l : List Ch} (h : CB w g l) (ho : Only S w w') (hg : ¬ S g) : CB w' g l := by
 have := h.lt
 obtain ⟨E, h⟩ := h
 exact ⟨E, (ho.block g this hg).trans h⟩
theorem CB.below {w w' : World} {B g : Nat} {l : List Ch} (h : CB w g l) (hb : Below B w w') (hg : g < B) : CB w' g l := by
 obtain ⟨E, h⟩ := h
 exact ⟨E, (hb.block g hg).trans h⟩
theorem infoCh : (Tryz.prog.info? 196).map (·.size) = some 513 := by kernel_rfl
theorem zcCh : Tryz.zeroCells196.size = 513 := by kernel_rfl
theorem CB.load {w : World} {g k : Nat} {l : List Ch} {c : Ch} (h : CB w g l) (hl : ChOk l) (hk : l[k]? = some c) : (loadVar 196 ⟨g, k * 513, none⟩).run Tryz.prog w = .ok (.agg (chC c).toArray) w := by
 obtain ⟨E, h⟩ := h
 have hc : c.data.length = 512 := hl c (List.mem_of_getElem? hk)
 refine run_loadVar_part w g (k * 513) _ _ _ (chC c) (0, 0) _ h Tryz.underlying196 rfl (by rw [chC_len hc]; exact infoCh) (fun j v hv => ?_)
 have h2 := rowC_sub hl hk j v hv
 rw [List.getElem?_append_left (List.getElem?_eq_some_iff.1 h2).1]
 exact h2
def Cb1 (w : World) (g : Nat) (c : Ch) : Prop := w.heap[g]? = some (.cells (chC c).toArray 196 (0, 0))
theorem Cb1.lt {w : World} {g : Nat} {c : Ch} (h : Cb1 w g c) : g < w.heap.size := (Array.getElem?_eq_some_iff.1 h).1
theorem Cb1.only {w w' : World} {S : Nat -> Prop} {g : Nat} {c : Ch} (h : Cb1 w g c) (ho : Only S w w') (hg : ¬ S g) : Cb1 w' g c := (ho.block g h.lt hg).trans h
theorem Cb1.below {w w' : World} {B g : Nat} {c : Ch} (h : Cb1 w g c) (hb : Below B w w') (hg : g < B) : Cb1 w' g c := (hb.block g hg).trans h
theorem Cb1.home {w : World} {g : Nat} {c : Ch} (h : Cb1 w g c) : w.cell? ⟨g, 0, none⟩ = some (.int .i64 (c.home : Int)) := cell_of_row w g 0 _ _ (0, 0) h
theorem Cb1.has {w : World} {g k : Nat} {c : Ch} (h : Cb1 w g c) (hk : k <= c.data.length) : HasB w w.heap.size (some ⟨g, 1, none⟩) k (c.data.take k) := by
 refine ⟨by rw [List.length_take]; omega, fun _ => ⟨g, 1, rfl, h.lt, fun i b hb => ?_⟩⟩
 rw [cell_of_row w g (1 + i) _ _ (0, 0) h]
 rw [List.getElem?_take] at hb
 split at hb
 · unfold chC cellsB
   rw [List.getElem?_toArray, Nat.add_comm 1 i, List.getElem?_cons_succ, List.getElem?_map, hb]
   rfl
 · cases hb
theorem Cb1.sec {w : World} {g : Nat} {c : Ch} (h : Cb1 w g c) (hc : c.data.length = 512) : (loadVar 185 ⟨g, 1, none⟩).run Tryz.prog w = .ok (.agg (cellsB c.data).toArray) w := by
 refine run_loadVar_part w g 1 _ _ _ (cellsB c.data) (0, 0) _ h Tryz.underlying185 rfl (by rw [cellsB_length, hc]; exact infoJsec) (fun j v hv => ?_)
 unfold chC
 rw [Nat.add_comm 1 j, List.getElem?_cons_succ]
 exact hv
theorem wp_store_ch {w : World} {ops : Array Oper} {rest : List Oper} {o : Oper} {a : Act} {Q : Exit -> Act -> World -> Prop} (hgd : o.guard = none) (x y : Operand) (ho : o.op = .store 196 x y)
 (g : Nat) (c : Ch) (hx : a.eval x = .pointer (some ⟨g, 0, none⟩)) (hy : a.eval y = .agg (chC c).toArray) (old : Array Value) (hB : w.heap[g]? = some (.cells old 196 (0, 0))) (ho' : old.size = 513) (hc : c.data.length = 512)
 (h : ∀ w', Cb1 w' g c -> Only (fun k => k = g) w w' -> wpList Tryz.prog ops Q rest (a.put o.dst undef) w') : wpList Tryz.prog ops Q (o :: rest) a w :=
 wpList_store_row hgd _ x y ho g _ hx hy _ _ hB (by rw [@List.size_toArray _ (chC c), chC_len hc]; exact infoCh) (show old.size = (chC c).toArray.size by rw [@List.size_toArray _ (chC c), chC_len hc]; exact ho') (by rw [Array.all_eq_true]; intro i hi; exact chC_one c _ (by simp)) (h _ (setRow_heap w g _ _ _ _ hB) ((Only.refl _ w).setRow (S := fun k => k = g) rfl _))
theorem wp_loadA {P : Program} {ops : Array Oper} {rest : List Oper} {o : Oper} {a : Act} {w : World} {Q : Exit -> Act -> World -> Prop} (hw : Region.wanted o (yielded ops a.tmps) = true) (ty : TypeId) (x : Operand) (ho : o.op = .load ty x)
 (ad : Addr) (hx : a.eval x = .pointer (some ad)) (v : Value) (hl : (loadVar ty ad).run P w = .ok v w) (h : wpList P ops Q rest (a.put o.dst v) w) : wpList P ops Q (o :: rest) a w := by
 refine BigFrame.wpList_want hw fun K hK => ?_
 unfold Oper.wp execOp
 simp only [ho, hx, Instr.loadAt, Instr.sureAddr, Sem.run_bind, Sem.run_pure, Result.andThen_ok, hl]
 exact hK _ _ h
theorem header_any (t gl n cl : Nat) (l : List Ch) (w : World) (ht : t < 9223372036854775808) (h : CB w gl l) (hok : ChOk l) (hn : n = l.length) (hn1 : n <= 40) (hh : ∀ c ∈ l, c.home < 4294967296) :
 Calls Tryz.prog 117 #[.int .u64 (t : Int), .slice (some ⟨gl, 0, none⟩) n cl] w (RetSec w (hdr t l)) := by
 obtain ⟨w0, hw0⟩ : ∃ w0, (w.alloc (.cells (cellsB zsec).toArray 185)).alloc (.cells (cellsB zsec).toArray 185) = w0 := ⟨_, rfl⟩
 have hb : Below w.heap.size w w0 := by rw [<- hw0]; exact ((Below.refl _ _).alloc (Nat.le_refl _) _).alloc (by simp) _
 have h1 : Bw w0 w.heap.size 185 zsec := by rw [<- hw0]; exact (Bw.new w zsec _).alloc _
 have h2 : Bw w0 (w.heap.size + 1) 185 zsec := by rw [<- hw0]; exact bw_second w zsec zsec _ _
 have hgl := h.lt
 have C1 := lH (hdrTag_any t w0 ht)
 have l1 : (setTag zsec (2 * t + 1)).length = 512 := setTag_len zsec_len
 have C2 := lH (sset_any (2 * t + 1) h2 zsec_len (by omega))
 have e0 : over (setTag zsec (2 * t + 1)) 8 (be 2 n) = hdrK t l 0 := by rw [hn]; rfl
 have C3 : Hid (∀ W, Bw W (w.heap.size + 1) 185 (setTag zsec (2 * t + 1)) -> Calls Tryz.prog 147 #[.pointer (some ⟨w.heap.size + 1, 0, none⟩), .int .i64 8, .int .u64 (n : Int), .int .i64 2] W (RetS W (w.heap.size + 1) (hdrK t l 0))) := lH (fun W hW => by
  have := sput_any 8 n 2 hW l1 (by omega) (by omega) (by omega) (by omega) (by omega)
  rwa [e0] at this)
 obtain ⟨T0, hT0⟩ : ∃ T0, setTag zsec (2 * t + 1) = T0 := ⟨_, rfl⟩
 obtain ⟨t1, ht1⟩ : ∃ t1, 2 * t + 1 = t1 := ⟨_, rfl⟩
 rw [hT0] at C2 C3
 rw [ht1] at C1 C2
 have HN := lH hn
 have HC := lH h
 have HOK := lH hok
 have HH := lH hh
 have H1 := lH h1
 have B0 := lH hb
 have W0 := lH hw0
 clear h hok hn hh h1 h2 hb hw0 l1 e0 hT0 ht1
 go_enter Tryz.func117, Tryz.ntmps117
 go_upto_region 2 with fail
 rw [zc97, W0.out]
 go_wp2_with (first
  | (go_at_call 142; refine C1.out.mono ?_; rintro e w1 ⟨rfl, rfl⟩)
  | (go_at_call 148; refine C2.out.mono ?_; rintro e w1 ⟨rfl, q1, o1⟩
     have Q1 := lH q1
     have O1 := lH o1
     clear q1 o1)
  | (go_at_call 147; refine (C3.out _ Q1.out).mono ?_; rintro e w2 ⟨rfl, q2, o2⟩
     have Q2 := lH q2
     have O2 := lH (O1.out.trans o2)
     clear q2 o2))
 have QW : Hid (Below w.heap.size w w2) := lH (B0.out.trans (O2.out.to_below (fun k hk => by omega) B0.out.size))
 have H12 := lH (H1.out.keepO O2.out (by omega))
 clear C1 C2 C3 H1
 go_loopw [18] (fun i wr => ∃ k : Nat, k <= n /\ i = .int .i64 (k : Int) /\ Bw wr (w.heap.size + 1) 185 (hdrK t l k) /\ Bw wr w.heap.size 185 zsec /\ Below w.heap.size w wr) (fun i _ => n - (intOf i).toNat)
 case atStart => exact ⟨0, by omega, rfl, Q2.out, H12.out, QW.out⟩
 case round =>
  obtain ⟨k, hk, rfl, q, qz, qb⟩ := hrel
  by_cases hlt : k < n
  · obtain ⟨c, hc⟩ : ∃ c, l[k]? = some c := ⟨_, List.getElem?_eq_getElem (by have := HN.out; omega)⟩
    have hcl : c.data.length = 512 := HOK.out c (List.mem_of_getElem? hc)
    have hch : c.home < 4294967296 := HH.out c (List.mem_of_getElem? hc)
    have hgd : l.getD k ⟨0, []⟩ = c := by rw [List.getD_eq_getElem?_getD, hc]; rfl
    have hs : hdrK t l (k + 1) = over (over (hdrK t l k) (16 + 12 * k) (be 4 c.home)) (16 + 12 * k + 4) (c.data.take 8) := by rw [hdrK_succ, hgd]
    have lk := hdrK_len t l k (by omega)
    have ld := (HC.out.below qb hgl).load HOK.out hc
    obtain ⟨K0, hK0⟩ : ∃ K0, hdrK t l k = K0 := ⟨_, rfl⟩
    obtain ⟨p, hp⟩ : ∃ p, 16 + 12 * k = p := ⟨_, rfl⟩
    have hp0 : p + 12 <= 512 := by omega
    have hp2 : (16 : Int) + 12 * (k : Int) = (p : Int) := by omega
    rw [hK0] at q lk hs
    rw [hp] at hs
    have l2 : (over K0 p (be 4 c.home)).length = 512 := over_be lk (by omega)
    have hwr : w.heap.size + 1 < wr.heap.size := q.lt
    have LD := lH ld
    have ZN := lH (heap_alloc_new wr (.cells Tryz.zeroCells196 196))
    have Q0 := lH q
    have QZ := lH qz
    have QB := lH qb
    have HCL := lH hcl
    have HCH := lH hch
    have L2 := lH l2
    have LK := lH lk
    have HS := lH hs
    clear ld q qz qb hcl hch hc hgd hs lk l2 hK0 hp
    go_upto_region 7 with (first
     | (refine wp_loadA rfl _ (.tmp 21) rfl ⟨gl, k * 513, none⟩ rfl _ LD.out ?_)
     | (refine wp_store_ch rfl (.tmp 7) (.tmp 22) rfl wr.heap.size c rfl rfl _ ZN.out zcCh HCL.out ?_; intro w5 q5 o5
        have Q5 := lH q5
        have O5 := lH (((Below.refl _ wr).alloc (Nat.le_refl _) _).trans (o5.to_below (B := wr.heap.size) (fun k hk => by omega) (by simp)))
        clear q5 o5))
    have k5 := Q5.out.home
    have Q05 := lH (Q0.out.below O5.out Q0.out.lt)
    have C4 := lH (sput_any p c.home 4 Q05.out LK.out (Nat.lt_trans HCH.out (by omega)) (by omega) (by omega) (by have := HCH.out; omega) (by omega))
    obtain ⟨hm, hhm⟩ : ∃ hm, c.home = hm := ⟨_, rfl⟩
    rw [hhm] at k5 C4 HS L2
    have hm1 : hm < 4294967296 := by rw [<- hhm]; exact HCH.out
    clear hhm
    obtain ⟨K1, hK1⟩ : ∃ K1, over K0 p (be 4 hm) = K1 := ⟨_, rfl⟩
    rw [hK1] at C4 HS L2
    clear hK1
    go_upto_region 9 with (go_at_call 147; refine C4.out.mono ?_; rintro e w6 ⟨rfl, q6, o6⟩
                           have Q6 := lH q6
                           have Q56 := lH (Q5.out.only o6 (by omega))
                           have O6 := lH o6
                           clear q6 o6)
    have p1 : ((p : Int) + 4) <= 512 := by omega
    have p2 : ¬ (512 = p + 4) := by omega
    have p3 : IntKind.i64.wrap ((p : Int) + 4) = (p : Int) + 4 := by rw [IntKind.wrap_i64]; omega
    have p4 : ((p : Int) + 4).toNat = p + 4 := by omega
    have p5 : (0 : Int) <= (p : Int) + 4 := by omega
    have S8 : Hid (HasB w6.drew w6.drew.heap.size (some ⟨wr.heap.size, 1, none⟩) 8 (c.data.take 8)) := lH (Cb1.has (w := w6.drew) Q56.out (by rw [HCL.out]; omega))
    have Q6d : Hid (Bw w6.drew (w.heap.size + 1) 185 K1) := lH Q6.out
    have b5 : Below w.heap.size w w5 := QB.out.trans (O5.out.mono QB.out.size)
    have W6 : Hid (Below w.heap.size w w6) := lH (b5.trans (O6.out.to_below (fun k hk => by omega) b5.size))
    clear b5
    have qz6 : Bw w6 w.heap.size 185 zsec := (QZ.out.below O5.out QZ.out.lt).keepO O6.out (by omega)
    have QZ6 : Hid (Bw w6.drew w.heap.size 185 zsec) := lH qz6
    clear qz6
    go_still_tail 5, (by kernel_rfl)
    change wpList _ _ _ _ _ w6.drew
    go_wp2_with (refine wp_copyB rfl (.tmp 33) (.tmp 35) rfl Tryz.underlying34 hsz1 (w.heap.size + 1) (p + 4) (508 - p) (508 - p) _ K1 (c.data.take 8) Q6d.out rfl _ _ 8 512 rfl S8.out (by omega) (by rw [L2.out]; omega) ?_; intro w7 q7 o7
                 rw [<- HS.out] at q7
                 have Q7 := lH q7
                 have O7 := lH o7
                 clear q7 o7)
    go_roundw
    case rel => exact ⟨k + 1, by omega, by go_num, Q7.out, QZ6.out.keepO O7.out (by omega), W6.out.drew.trans (O7.out.to_below (fun k hk => by omega) (by have := W6.out.size; exact this))⟩
    case measure => simp [intOf]; omega
  · obtain rfl : k = n := by omega
    have Q0 := lH q
    have QZ := lH qz
    have QB := lH qb
    have HD : Hid (hdrK t l k = hdr t l) := lH (by rw [HN.out]; rfl)
    have HL : Hid ((hdrK t l k).length = 512) := lH (hdrK_len t l k hn1)
    obtain ⟨y, hy⟩ : ∃ y, hdrK t l k = y := ⟨_, rfl⟩
    rw [hy] at Q0 HD HL
    clear q qz qb hy
    go_wp2_with (first
     | (refine wp_load_sec rfl (.tmp 5) rfl (w.heap.size + 1) rfl _ y Q0.out HL.out ?_)
     | (refine wp_store_sec rfl (.tmp 4) (.tmp 38) rfl w.heap.size y rfl rfl _ zsec QZ.out zsec_len HL.out ?_; intro w8 h8 o8))
    refine bodyPost_ret (v := .agg (cellsB y).toArray) (res_sec (p := 4) rfl _ rfl h8 HL.out) (by rfl) ?_
    exact ⟨by rw [HD.out], QB.out.trans (o8.to_below (fun k hk => by omega) QB.out.size)⟩
end Go.Proofs.YthoebjekkfhhgaaGreat
