/-
  Own work.
-/
import Derived.Test.YthoebjekkfhhgaaGreatCp9
import Derived.Test.YthoebjekkfhhgaaGreatJy
set_option linter.unusedVariables false
set_option linter.unusedSimpArgs false
set_option maxRecDepth 100000
set_option maxHeartbeats 8000000
namespace Go.Proofs.YthoebjekkfhhgaaGreat
open Go.RowKit Go.Maps
section
variable {Z : DK} {w w' W W' : World} {g gd gp n : Nat} {S T : Nat -> Prop} {e : Int} {j : JM} {m : RM} {p : Pt}
def frL (j : JM) (i : Nat) : List UInt8 := if (j.fresh.getD i emp).size = 0 then zer 512 else lst (j.fresh.getD i emp)
def frB (j : JM) (i : Nat) : Bool := decide ((j.fresh.getD i emp).size ≠ 0)
theorem frL_len (h : j.Ok n) {i : Nat} (hi : i < j.homes n) : (frL j i).length = 512 := by
 unfold frL
 split
 · exact zer_len 512
 · rename_i h0
   rw [lst_len]
   refine (h.fs _ ?_).resolve_left h0
   rw [List.getD_eq_getElem?_getD, List.getElem?_eq_getElem (by rw [h.fl]; exact hi)]
   exact List.getElem_mem _
theorem wp_lookJ {ops : Array Oper} {rest : List Oper} {o : Oper} {a : Act} {Q : Exit -> Act -> World -> Prop} (hg : o.guard = none) (mo xo : Operand) (hop : o.op = Op.lookup 140 mo xo true)
 (hm : a.eval mo = .map (some gp)) (i : Nat) (hx : a.eval xo = .int .i64 (i : Int)) (h : JO W g gd gp n e j) (hn : n <= 4096) (hi : i < j.homes n)
 (hK : wpList Tryz.prog ops Q rest (a.put o.dst (.tuple #[.agg (cellsB (frL j i)).toArray, .bool (frB j i)])) W) : wpList Tryz.prog ops Q (o :: rest) a W := by
 obtain ⟨D, hmm, hD⟩ := h.map
 refine wpList_lookup_own_ok W hg mo xo 140 hop 3 185 intK Tryz.underlying140 secElem (zeroJsec W) (.lit (.string (zer 512))) [] (secElem_mk (zer_len 512)) gp j.used D hm hmm _ (kI i) hx (keyI (by have := h.sizeH hn; omega)) ?_
 intro v ps hv
 obtain ⟨l, rfl, hl, e⟩ := secElem_inv hv
 rw [Prod.mk.injEq] at e
 have e1 := e.1
 rw [hD.hi i hi]
 have el : l = frL j i := by
  unfold frL
  by_cases h0 : (j.fresh.getD i emp).size = 0
  · rw [if_pos h0]
    rw [hD.no hi h0] at e1
    injection e1 with e1
    injection e1 with e1
    exact e1.symm
  · rw [if_neg h0]
    rw [hD.at_ i hi h0] at e1
    injection e1 with e1
    injection e1 with e1
    exact e1.symm
 subst el
 exact hK
def RetRd (Z : DK) (w : World) (g gd gp n : Nat) (S : Nat -> Prop) (l : List UInt8) (k : Int) (p : Pt) (j : JM) (e : Ending) (w' : World) : Prop :=
 ∃ A q c, e = .returned (.tuple #[.slice A q c, .int .i64 k]) /\ OwnX w' w.heap.size (.slice A q c) l /\ LeftJ Z w g gd gp n S p j w'
theorem jread_no (i : Int) (h : JO w g gd gp n p.e j) (d : Z.D w gd S n p.m) (ok : p.m.Ok n) (hi : -9223372036854775808 <= i /\ i <= 9223372036854775807) (hx : chkE p j ≠ 0 \/ i < 0 \/ (j.homes n : Int) <= i) :
 Calls Tryz.prog 125 #[.pointer (some ⟨g, 0, none⟩), .int .i64 i] w (RetRd Z w g gd gp n S [] (if chkE p j ≠ 0 then 8 else 1) p j) := by
 have C := lH (jcheck_any h d ok)
 have LL : Hid (∀ W, Below w.heap.size w W -> LeftJ Z w g gd gp n S p j W) := lH (fun W hW => LeftJ.below hW d h)
 by_cases h1 : chkE p j ≠ 0
 · have h8 : chkE ⟨p.m, p.e⟩ j = 8 := by
    have h9 : chkE ⟨p.m, p.e⟩ j = if p.e ≠ 0 \/ p.m.powers ≠ j.lives then 8 else 0 := rfl
    rw [h9]
    split
    · rfl
    · rename_i hh
      exact absurd (show chkE p j = 0 by unfold chkE; rw [if_neg hh]) h1
   rw [if_pos h1]
   rw [h8] at C
   clear h d ok h1 h8 hx
   go_enter Tryz.func125, Tryz.ntmps125
   go_wp2_with (go_at_call 111; refine C.out.mono ?_; rintro en w1 ⟨rfl, k, rfl⟩)
   go_ret2
   exact ⟨none, 0, 0, rfl, OwnX.nil _ _, LL.out _ ⟨rfl, rfl, rfl, Nat.le_refl _, fun _ _ => rfl⟩⟩
 · have h8 : chkE ⟨p.m, p.e⟩ j = 0 := Decidable.not_not.1 h1
   rw [if_neg h1]
   rw [h8] at C
   have hd : decide (0 <= i /\ i < (j.homes n : Int)) = false := decide_eq_false (by rcases hx with h2 | h2; exact absurd h2 h1; omega)
   have CI : Hid (∀ k, Calls Tryz.prog 112 #[.pointer (some ⟨g, 0, none⟩), .int .i64 i] (w.drewN k) (RetV2 (w.drewN k) (.bool false))) := lH (fun k => by
    have := jishome_any i (h.drewN k) (DK.drewN d k) ok hi
    rwa [hd] at this)
   clear h d ok h1 h8 hx hd
   go_enter Tryz.func125, Tryz.ntmps125
   go_wp2_with (first
    | (go_at_call 111; refine C.out.mono ?_; rintro en w1 ⟨rfl, k, rfl⟩)
    | (go_at_call 112; refine (CI.out k).mono ?_; rintro en w2 ⟨rfl, b2⟩))
   go_ret2
   exact ⟨none, 0, 0, rfl, OwnX.nil _ _, LL.out _ ⟨b2.os, b2.tape, b2.output, b2.size, b2.block⟩⟩
theorem jread_fresh (i : Nat) (h : JO w g gd gp n p.e j) (d : Z.D w gd S n p.m) (ok : p.m.Ok n) (hc : chkE p j = 0) (hi : i < j.homes n) (hf : (j.fresh.getD i emp).size ≠ 0) :
 Calls Tryz.prog 125 #[.pointer (some ⟨g, 0, none⟩), .int .i64 (i : Int)] w (RetRd Z w g gd gp n S (lst (j.fresh.getD i emp)) 0 p j) := by
 have n2 := ok.n2
 have C := lH (jcheck_any h d ok)
 have h8 : chkE ⟨p.m, p.e⟩ j = 0 := hc
 rw [h8] at C
 have he : p.e = 0 := by
  by_cases q : p.e = 0
  · exact q
  · unfold chkE at hc
    rw [if_pos (.inl q)] at hc
    cases hc
 have LL : Hid (∀ W, Below w.heap.size w W -> LeftJ Z w g gd gp n S p j W) := lH (fun W hW => LeftJ.below hW d h)
 have H := lH h
 have hd : decide (0 <= (i : Int) /\ (i : Int) < (j.homes n : Int)) = true := decide_eq_true (by omega)
 have hhn := h.sizeH n2
 have CI : Hid (∀ k, Calls Tryz.prog 112 #[.pointer (some ⟨g, 0, none⟩), .int .i64 (i : Int)] (w.drewN k) (RetV2 (w.drewN k) (.bool true))) := lH (fun k => by
  have := jishome_any (i : Int) (h.drewN k) (DK.drewN d k) ok (by omega)
  rwa [hd] at this)
 have HI := lH hi
 have FB : Hid (frB j i = true) := lH (by unfold frB; exact decide_eq_true hf)
 have FL : Hid (frL j i = lst (j.fresh.getD i emp)) := lH (by unfold frL; rw [if_neg hf])
 have FN := lH (frL_len h.ok hi)
 obtain ⟨l, hl⟩ : ∃ l, lst (j.fresh.getD i emp) = l := ⟨_, rfl⟩
 rw [hl] at FL ⊢
 rw [FL.out] at FN
 have HE := lH he
 clear h d ok hc h8 hd hf hl hi he
 go_enter Tryz.func125, Tryz.ntmps125
 go_wp2_with (first
  | (go_at_call 111; refine C.out.mono ?_; rintro en w1 ⟨rfl, k, rfl⟩)
  | (go_at_call 112; refine (CI.out k).mono ?_; rintro en w2 ⟨rfl, b2⟩
     have B2 : Hid (Below w.heap.size w w2) := lH ⟨b2.os, b2.tape, b2.output, b2.size, b2.block⟩
     have O2 := lH (H.out.below B2.out)
     have c8 := O2.out.c8
     have c1 := O2.out.c1
     rw [HE.out] at c1
     have Z2 : Hid (Bw (w2.alloc (.cells (cellsB zsec).toArray 185)) w2.heap.size 185 zsec) := lH (Bw.new w2 zsec _)
     clear b2)
  | (refine wp_lookJ rfl (.tmp 22) (.tmp 23) rfl rfl i rfl O2.out n2 HI.out ?_; rw [FB.out, FL.out])
  | (rw [zc97]; refine wp_store_sec rfl (.tmp 7) (.tmp 25) rfl w2.heap.size l rfl rfl _ zsec Z2.out zsec_len FN.out ?_; intro w3 h3 o3
     have H3 := lH h3
     have B3 : Hid (Below w2.heap.size w2 w3) := lH (((Below.refl _ w2).alloc (Nat.le_refl _) _).trans (o3.to_below (B := w2.heap.size) (fun k hk => by omega) (by simp)))
     have c13 : w3.cell? ⟨g, 1, none⟩ = some (.int .i64 0) := (B3.out.cell (by exact O2.out.lt)).trans c1
     clear h3 o3))
 go_ret2
 exact ⟨some ⟨w2.heap.size, 0, none⟩, 512, 512, rfl, OwnX.of_block H3.out B2.out.size FN.out.symm (by simp only [maxLen]; omega), LL.out _ (B2.out.trans (B3.out.mono B2.out.size))⟩
theorem jrd_on (a : Apart w g gp S) (l : LeftJ Z w g gd gp n S p j W) (ok : p.m.Ok n) (i : Int) (hi : -9223372036854775808 <= i /\ i <= 9223372036854775807) :
 Calls Tryz.prog 139 #[.pointer (some ⟨g, 0, none⟩), .int .i64 i] W (fun en W' => en = .returned (.agg (cellsB (p.rdS n i)).toArray) /\ LeftJ Z w g gd gp n S (p.rd n i) j W') := by
 obtain ⟨S', d', hs', hg', hp'⟩ := l.nog a.s1 a.s2 a.l1 a.l2
 refine (pord_any p i d' ok hi l.o.po hg').mono ?_
 rintro en W' ⟨he, lp⟩
 exact ⟨he, l.trans hs' (LeftJ.port l.o hg' hp' lp)⟩
theorem step_store_sec {w : World} {ops : Array Oper} {o : Oper} {a : Act} {K : Act -> World -> Prop} {Q : Exit -> Act -> World -> Prop} {F : Prop} (hgd : o.guard = none) (x y : Operand) (ho : o.op = .store 185 x y)
 (g : Nat) (s : List UInt8) (hx : a.eval x = .pointer (some ⟨g, 0, none⟩)) (hy : a.eval y = .agg (cellsB s).toArray) (t : TypeId) (old : List UInt8) (hB : Bw w g t old) (ho' : old.length = 512) (hs : s.length = 512)
 (h : ∀ w', Bw w' g t s -> Only (fun k => k = g) w w' -> K (a.put o.dst undef) w') : if Region.wanted o (yielded ops a.tmps) = true then Oper.wp Tryz.prog o a w K Q else F := by
 have hw : Region.wanted o (yielded ops a.tmps) = true := by simp [Region.wanted, hgd]
 rw [if_pos hw]
 exact wp_store_row _ x y ho g _ hx hy t _ hB (sec_iv hs) (by rw [cellsB_size, cellsB_size, ho', hs]) (cellsB_ones s) (h _ hB.row ((Only.refl _ w).setRow (S := fun k => k = g) rfl _))
theorem Pt.rdS_len (p : Pt) {n : Nat} (ok : p.m.Ok n) (i : Int) : (p.rdS n i).length = 512 := by
 unfold Pt.rdS
 split
 · rename_i h
   have hz := h.2
   have hi : 0 <= i /\ i < n := by
    unfold RM.readE at hz
    split at hz
    · cases hz
    · split at hz
      · cases hz
      · omega
   rw [lst_len']
   unfold RM.readS RM.at_
   rw [if_pos hz]
   split
   · exact ok.lsz' (by omega)
   · rename_i hw
     exact (ok.wsz' (i := i.toNat) (by omega)).resolve_left hw
 · exact zsec_len
theorem jread_disk (i : Nat) (h : JO w g gd gp n p.e j) (d : Z.D w gd S n p.m) (ok : p.m.Ok n) (hc : chkE p j = 0) (hi : i < j.homes n) (hf : (j.fresh.getD i emp).size = 0) (a : Apart w g gp S) :
 Calls Tryz.prog 125 #[.pointer (some ⟨g, 0, none⟩), .int .i64 (i : Int)] w (RetRd Z w g gd gp n S (if p.m.readE n (j.k.atHome i : Nat) ≠ 0 then [] else lst (p.m.readS n (j.k.atHome i : Nat))) (p.m.readE n (j.k.atHome i : Nat)) (p.rd n (j.k.atHome i : Nat)) j) := by
 have n2 := ok.n2
 have C := lH (jcheck_any h d ok)
 have h8 : chkE ⟨p.m, p.e⟩ j = 0 := hc
 rw [h8] at C
 have he : p.e = 0 := by
  by_cases q : p.e = 0
  · exact q
  · unfold chkE at hc
    rw [if_pos (.inl q)] at hc
    cases hc
 have LL : Hid (∀ W, Below w.heap.size w W -> LeftJ Z w g gd gp n S p j W) := lH (fun W hW => LeftJ.below hW d h)
 have H := lH h
 have hd : decide (0 <= (i : Int) /\ (i : Int) < (j.homes n : Int)) = true := decide_eq_true (by omega)
 have hhn := h.sizeH n2
 have CI : Hid (∀ k, Calls Tryz.prog 112 #[.pointer (some ⟨g, 0, none⟩), .int .i64 (i : Int)] (w.drewN k) (RetV2 (w.drewN k) (.bool true))) := lH (fun k => by
  have := jishome_any (i : Int) (h.drewN k) (DK.drewN d k) ok (by omega)
  rwa [hd] at this)
 have HI := lH hi
 have FB : Hid (frB j i = false) := lH (by unfold frB; exact decide_eq_false (fun hh => hh hf))
 have FL : Hid (frL j i = zsec) := lH (by unfold frL; rw [if_pos hf]; rfl)
 have FN := lH (frL_len h.ok hi)
 rw [FL.out] at FN
 have HE := lH he
 have fit := h.ok.fit
 have r2 := h.ok.r2
 have D0 := lH d
 have AP := lH a
 obtain ⟨x, hx⟩ : ∃ x, j.k.atHome i = x := ⟨_, rfl⟩
 have hx2 : x <= 10000 := by rw [<- hx]; show 2 + j.k.ring + i <= 10000; omega
 have CA : Hid (∀ W, Calls Tryz.prog 114 #[.agg (mkC j.k), .int .i64 (i : Int)] W (RetV2 W (.int .i64 (x : Int)))) := lH (fun W => by have := atHome_any j.k i W fit (by omega); rwa [hx] at this)
 rw [hx]
 obtain ⟨q, hq⟩ : ∃ q, p.rd n (x : Int) = q := ⟨_, rfl⟩
 obtain ⟨s, hs⟩ : ∃ s, p.rdS n (x : Int) = s := ⟨_, rfl⟩
 have SN : Hid (s.length = 512) := lH (by rw [<- hs]; exact p.rdS_len ok _)
 have hqe : q.e = p.m.readE n (x : Int) := by rw [<- hq]; unfold Pt.rd; rw [if_pos he]
 have hse : p.m.readE n (x : Int) = 0 -> s = lst (p.m.readS n (x : Int)) := fun h0 => by rw [<- hs]; unfold Pt.rdS; rw [if_pos ⟨he, h0⟩]
 obtain ⟨E, hE⟩ : ∃ E, p.m.readE n (x : Int) = E := ⟨_, rfl⟩
 rw [hE] at hqe hse
 rw [hE, hq]
 obtain ⟨R, hR⟩ : ∃ R, (if E ≠ 0 then [] else lst (p.m.readS n (x : Int))) = R := ⟨_, rfl⟩
 rw [hR]
 have CR : Hid (∀ W0 W (S' : Nat -> Prop), Apart W0 g gp S' -> LeftJ Z W0 g gd gp n S' p j W -> Calls Tryz.prog 139 #[.pointer (some ⟨g, 0, none⟩), .int .i64 (x : Int)] W (fun en W' => en = .returned (.agg (cellsB s).toArray) /\ LeftJ Z W0 g gd gp n S' q j W')) := lH (fun W0 W S' hA hL => by
  have := jrd_on hA hL ok (x : Int) (by omega)
  rwa [hq, hs] at this)
 have HSE := lH hse
 have HQE := lH hqe
 have HR := lH hR
 clear h d ok hc h8 hd hf hi he a hx hq hs hqe hse hE hR
 go_enter Tryz.func125, Tryz.ntmps125
 go_upto_region 8 with (first
  | (go_at_call 111; refine C.out.mono ?_; rintro en w1 ⟨rfl, k, rfl⟩)
  | (go_at_call 112; refine (CI.out k).mono ?_; rintro en w2 ⟨rfl, b2⟩
     have B2 : Hid (Below w.heap.size w w2) := lH ⟨b2.os, b2.tape, b2.output, b2.size, b2.block⟩
     have O2 := lH (H.out.below B2.out)
     have c8 := O2.out.c8
     have c1 := O2.out.c1
     rw [HE.out] at c1
     have Z2 : Hid (Bw (w2.alloc (.cells (cellsB zsec).toArray 185)) w2.heap.size 185 zsec) := lH (Bw.new w2 zsec _)
     clear b2)
  | (refine wp_lookJ rfl (.tmp 22) (.tmp 23) rfl rfl i rfl O2.out n2 HI.out ?_; rw [FB.out, FL.out])
  | (rw [zc97]; refine wp_store_sec rfl (.tmp 7) (.tmp 25) rfl w2.heap.size zsec rfl rfl _ zsec Z2.out zsec_len FN.out ?_; intro w3 h3 o3
     have H3 := lH h3
     have B3 : Hid (Below w2.heap.size w2 w3) := lH (((Below.refl _ w2).alloc (Nat.le_refl _) _).trans (o3.to_below (B := w2.heap.size) (fun k hk => by omega) (by simp)))
     have c13 : w3.cell? ⟨g, 1, none⟩ = some (.int .i64 0) := (B3.out.cell (by exact O2.out.lt)).trans c1
     clear h3 o3))
 have b23 : Below w.heap.size w w3 := B2.out.trans (B3.out.mono B2.out.size)
 have o3 := O2.out.below B3.out
 have d3 : Z.D w3 gd S n p.m := Z.only D0.out (Only.of_below (S := fun _ => False) b23 (Nat.le_refl _)) (fun _ _ h => h)
 have A3 : Hid (Apart w3 g gp S) := lH ⟨AP.out.s1, AP.out.s2, o3.lt, o3.ltp, AP.out.ne⟩
 have L3 : Hid (LeftJ Z w3 g gd gp n S p j w3) := lH (LeftJ.same d3 o3)
 have B23 := lH b23
 have HLT : w2.heap.size < w3.heap.size := H3.out.lt
 have KEEP : Hid (∀ W q, LeftJ Z w3 g gd gp n S q j W -> Bw W w2.heap.size 185 zsec) := lH (fun W q hW => H3.out.keepO hW.y (fun hh => by
  rcases hh with h1 | h1 | h1
  · have := Z.lt D0.out _ h1; have := B2.out.size; omega
  · have := O2.out.lt; omega
  · have := O2.out.ltp; omega))
 clear b23 o3 d3 c13
 go_wp2_with fail
 refine wp_region_held_drew (S := fun W => ∃ e, JO W g gd gp n e j) (by kernel_rfl) ⟨_, L3.out.drew.o⟩ (fun hHeld => ?_)
 refine tk9 (i := 0) (h := ?_)
 try simp only [aP,aN,aS,aZ,aC]
 refine tk9 (i := 1) (h := ?_)
 try simp only [aP,aN,aS,aZ,aC]
 refine tk9 (i := 2) (h := ?_)
 try simp only [aP,aN,aS,aZ,aC]
 refine tk9 (i := 3) (h := ?_)
 try simp only [aP,aN,aS,aZ,aC]
 refine tk9 (i := 4) (h := ?_)
 try simp only [aP,aN,aS,aZ,aC]
 refine tk9 (i := 5) (h := ?_)
 try simp only [aP,aN,aS,aZ,aC]
 refine tk9 (i := 6) (hy := (yieldsIf_loadG (by rfl) 137 (.tmp 34) rfl ⟨g, 2, none⟩ rfl _ (fun W hW => hW.choose_spec.mark))) (h := ?_)
 try simp only [aP,aN,aS,aZ,aC]
 refine tk9 (i := 7) (h := ?_)
 try simp only [aP,aN,aS,aZ,aC]
 refine rd9 (i := 8) (h := fun K hK => ?_)
 go_simp
 refine (CA.out _).mono ?_
 rintro en w6 ⟨rfl, b6⟩
 have L6 := lH (L3.out.drew.belowR b6)
 clear b6
 refine hK _ _ ⟨_, L6.out.o⟩ (fun hH8 => ?_)
 clear hK K
 try simp only [aP,aN,aS,aZ,aC]
 refine rd9 (i := 9) (h := fun K hK => ?_)
 go_simp
 refine (CR.out _ _ _ A3.out L6.out).mono ?_
 rintro en w8 ⟨rfl, l8⟩
 have L8 := lH l8
 clear l8
 refine hK _ _ ⟨_, L8.out.o⟩ (fun hH9 => ?_)
 clear hK K
 try simp only [aP,aN,aS,aZ,aC]
 refine rd9 (i := 10) (h := fun K hK => ?_)
 refine step_store_sec rfl (.tmp 7) (.tmp 38) rfl w2.heap.size s rfl rfl _ zsec (KEEP.out _ _ L8.out) zsec_len SN.out ?_
 intro w9 h9 o9
 have jo9 := L8.out.o.only o9 (by have := O2.out.lt; omega) (by have := O2.out.ltp; omega)
 refine hK _ _ ⟨_, jo9⟩ (fun hH10 => ?_)
 clear hK K
 try simp only [aP,aN,aS,aZ,aC]
 have c19 := jo9.c1
 rw [HQE.out] at c19
 have H9 := lH h9
 have l82 := LeftJ.from B3.out L8.out
 have L9 : Hid (LeftJ Z w g gd gp n S q j w9) := lH (by
  obtain ⟨S8, d8, hs8⟩ := L8.out.d
  obtain ⟨S9, d9, hs9⟩ := l82.d
  refine LeftJ.from B2.out ⟨⟨S8, Z.only d8 o9 (fun k hk hh => by
   rcases hs8 k hk with h1 | h1
   · have := Z.lt D0.out _ h1; have := B2.out.size; omega
   · omega), fun k hk => (hs8 k hk).imp id (fun h => by omega)⟩, jo9, l82.y.trans' o9 (fun k hk hh => by omega)⟩)
 clear l82
 clear h9 o9 jo9
 refine wpAnyH_done (by kernel_rfl) ?_ _
 by_cases hE0 : E = 0
 · have hE1 : (E != 0) = false := by rw [hE0]; rfl
   have RV : Hid (R = s) := lH (by rw [<- HR.out, if_neg (fun hh => hh hE0), HSE.out hE0])
   have E0 := lH hE0
   clear hE0
   go_wp2_with fail
   go_ret2
   rw [RV.out, E0.out]
   exact ⟨some ⟨w2.heap.size, 0, none⟩, 512, 512, rfl, OwnX.of_block H9.out B2.out.size SN.out.symm (by simp only [maxLen]; omega), L9.out⟩
 · have hE1 : (E != 0) = true := by rw [bne_iff_ne]; exact hE0
   have RV : Hid (R = []) := lH (by rw [<- HR.out, if_pos hE0])
   clear hE0
   go_wp2_with fail
   go_quiet (fail)
   go_wp2_with fail
   go_ret2
   rw [RV.out]
   exact ⟨none, 0, 0, rfl, OwnX.nil _ _, L9.out.belowR ⟨rfl, rfl, rfl, Nat.le_refl _, fun _ _ => rfl⟩⟩
theorem jread_any (i : Int) (h : JO w g gd gp n p.e j) (d : Z.D w gd S n p.m) (ok : p.m.Ok n) (hi : -9223372036854775808 <= i /\ i <= 9223372036854775807) (a : Apart w g gp S) :
 Calls Tryz.prog 125 #[.pointer (some ⟨g, 0, none⟩), .int .i64 i] w (RetRd Z w g gd gp n S (jrS p n j i) (jrE p n j i) (jrP p n j i) j) := by
 by_cases hc : chkE p j = 0
 · by_cases hx : i < 0 \/ (j.homes n : Int) <= i
   · have q := jread_no (Z := Z) (S := S) i h d ok hi (Or.inr hx)
     simp only [jrS, jrE, jrP, hc, hx, ne_eq, not_true_eq_false, if_false, if_true, reduceIte] at q ⊢
     simpa using q
   · obtain ⟨k, rfl⟩ : ∃ k : Nat, i = (k : Int) := ⟨i.toNat, by omega⟩
     have hk : k < j.homes n := by omega
     by_cases hf : (j.fresh.getD k emp).size = 0
     · have q := jread_disk (Z := Z) (S := S) k h d ok hc hk hf a
       simp only [jrS, jrE, jrP, hc, hx, hf, ne_eq, not_true_eq_false, if_false, reduceIte, Int.toNat_natCast] at q ⊢
       exact q
     · have q := jread_fresh (Z := Z) (S := S) k h d ok hc hk hf
       simp only [jrS, jrE, jrP, hc, hx, hf, ne_eq, not_true_eq_false, not_false_eq_true, if_false, if_true, reduceIte, Int.toNat_natCast] at q ⊢
       exact q
 · have q := jread_no (Z := Z) (S := S) i h d ok hi (Or.inl hc)
   simp only [jrS, jrE, jrP, hc, ne_eq, not_false_eq_true, if_true, reduceIte] at q ⊢
   simpa using q
end
def nwP (p : Pt) (n : Nat) : Nat -> Pt
 | 0 => p
 | i + 1 => (nwP p n i).rd n (i : Int)
def nwM (p : Pt) (n : Nat) : Nat -> Mk
 | 0 => ⟨0, 0, 0, 0⟩
 | i + 1 => if markB n ((nwP p n i).rdS n (i : Int)) = true /\ (nwM p n i).num < (markS ((nwP p n i).rdS n (i : Int))).num then markS ((nwP p n i).rdS n (i : Int)) else nwM p n i
theorem nwP_m (p : Pt) (n i : Nat) : (nwP p n i).m = p.m := by
 induction i with
 | zero => rfl
 | succ k ih =>
   rw [<- ih]
   show ((nwP p n k).rd n (k : Int)).m = _
   unfold Pt.rd
   split <;> rfl
section
variable {Z : DK} {w w' W W' : World} {g gd gp n : Nat} {S T : Nat -> Prop} {e : Int} {m : RM} {p : Pt} {cs : Array Value}
theorem LeftP.belowR' {t : TypeId} (l : LeftP Z w g gd S n cs t p W) (hb : Below W.heap.size W W') : LeftP Z w g gd S n cs t p W' := by
 obtain ⟨S', d', hs, h1, ho⟩ := l
 exact ⟨S', Z.only d' (Only.of_below (S := fun _ => False) hb (Nat.le_refl _)) (fun _ _ h => h), hs, h1.below hb, ho.trans ((Only.of_below (S := fun k => S k \/ k = g) hb (Nat.le_refl _)))⟩
def NwR (Z : DK) (w0 : World) (g gd : Nat) (S : Nat -> Prop) (n : Nat) (cs : Array Value) (p : Pt) (gr gb : Nat) (k : Nat) (W : World) : Prop :=
 ∃ S', Z.D W gd S' n p.m /\ (∀ k, S' k -> S k \/ w0.heap.size <= k) /\ PoB W g gd (nwP p n k).e (cs.setIfInBounds 1 (.int .i64 (nwP p n k).e)) 142 /\ Only (fun k => S k \/ k = g \/ k = gb) w0 W /\
   W.heap[gb]? = some (.cells (mkC (nwM p n k)) 137 (0, 0)) /\ W.heap[gr]? = some (.cells (mkC ⟨0, 0, 0, 0⟩) 137 (0, 0))
def LeftG (Z : DK) (w : World) (g gd : Nat) (S : Nat -> Prop) (n : Nat) (cs : Array Value) (t : TypeId) (p : Pt) (gm : Nat) (k : Mk) (W : World) : Prop :=
 ∃ S2, Z.D W gd S2 n p.m /\ (∀ k, S2 k -> S k \/ w.heap.size <= k) /\ PoB W g gd p.e (cs.setIfInBounds 1 (.int .i64 p.e)) t /\ Only (fun k => S k \/ k = g) w W /\ ¬ S2 gm /\ W.heap[gm]? = some (.cells (mkC k) 137 (0, 0)) /\ w.heap.size <= gm
theorem LeftG.left {t : TypeId} {gm : Nat} {k : Mk} (l : LeftG Z w g gd S n cs t p gm k W) : LeftP Z w g gd S n cs t p W := by
 obtain ⟨S2, d, hs, b, o, _, _, _⟩ := l
 exact ⟨S2, d, hs, b, o⟩
theorem LeftP.ptr {t : TypeId} (l : LeftP Z w g gd S n cs t p W) : W.cell? ⟨g, 0, none⟩ = some (.pointer (some ⟨gd, 0, none⟩)) := by
 obtain ⟨S2, d, hs, b, o⟩ := l
 exact b.d
theorem LeftP.gm {t : TypeId} (l : LeftP Z w g gd S n cs t p W) (k : Mk) : LeftG Z w g gd S n cs t p W.heap.size k (W.alloc (.cells (mkC k) 137)) := by
 obtain ⟨S2, d, hs, b, o⟩ := l
 have hb : Below W.heap.size W (W.alloc (.cells (mkC k) 137)) := (Below.refl _ W).alloc (Nat.le_refl _) _
 exact ⟨S2, Z.only d (Only.of_below (S := fun _ => False) hb (Nat.le_refl _)) (fun _ _ h => h), hs, b.below hb, o.trans (Only.of_below hb (Nat.le_refl _)), fun hh => by have := Z.lt d _ hh; omega, heap_alloc_new W _, o.size⟩
theorem LeftG.below {t : TypeId} {gm : Nat} {k : Mk} (l : LeftG Z w g gd S n cs t p gm k W) (hb : Below W.heap.size W W') : LeftG Z w g gd S n cs t p gm k W' := by
 obtain ⟨S2, d, hs, b, o, h1, h2, h3⟩ := l
 exact ⟨S2, Z.only d (Only.of_below (S := fun _ => False) hb (Nat.le_refl _)) (fun _ _ h => h), hs, b.below hb, o.trans (Only.of_below hb (Nat.le_refl _)), h1, (hb.block gm (Array.getElem?_eq_some_iff.1 h2).1).trans h2, h3⟩
theorem LeftG.read {t : TypeId} {w1 : World} {gm : Nat} {k : Mk} (hb : Below w.heap.size w w1) (hm : w1.heap[gm]? = some (.cells (mkC k) 137 (0, 0))) (h1 : w.heap.size <= gm) (hlt : ∀ k, S k -> k < w.heap.size) (hg : g < w.heap.size) (l : LeftP Z w1 g gd S n cs t p W) : LeftG Z w g gd S n cs t p gm k W := by
 obtain ⟨S2, d, hs, b, o⟩ := l
 have hm1 : gm < w1.heap.size := (Array.getElem?_eq_some_iff.1 hm).1
 refine ⟨S2, d, fun k hk => (hs k hk).imp id fun h => Nat.le_trans hb.size h, b, (Only.of_below hb (Nat.le_refl _)).trans o, fun hh => ?_, (o.block gm hm1 (fun hh => ?_)).trans hm, h1⟩
 · rcases hs _ hh with h2 | h2
   · have := hlt _ h2; omega
   · omega
 · rcases hh with h2 | h2
   · have := hlt _ h2; omega
   · omega
theorem LeftG.row {t : TypeId} {gm : Nat} {k k' : Mk} (l : LeftG Z w g gd S n cs t p gm k W) (hg : g < w.heap.size) : LeftG Z w g gd S n cs t p gm k' (W.setRow gm (mkC k')) := by
 obtain ⟨S2, d, hs, b, o, h1, h2, h3⟩ := l
 have ho : Only (fun k => k = gm) W (W.setRow gm (mkC k')) := (Only.refl _ W).setRow (S := fun k => k = gm) rfl _
 exact ⟨S2, Z.only d ho (fun k hk hh => h1 (hh ▸ hk)), hs, b.only ho (by omega), o.trans' ho (fun k hk hh => by omega), h1, setRow_heap W gm _ (mkC k') 137 _ h2, h3⟩
theorem NwR.next {w0 wr w9 w10 : World} {S' : Nat -> Prop} {gr gb gm k : Nat} {e1 : Int} {q' : Pt} {x : Mk} (ho : Only (fun k => S k \/ k = g \/ k = gb) w0 wr) (hs : ∀ k, S' k -> S k \/ w0.heap.size <= k)
 (lg : LeftG Z wr.drew g gd S' n (cs.setIfInBounds 1 (.int .i64 e1)) 142 q' gm x w9) (hq : nwP p n (k + 1) = q') (hpm : q'.m = p.m) (hgb : g ≠ gb) (hb1 : ¬ S' gb) (hb2 : gb < wr.heap.size)
 (h10 : Only (fun k => k = gb) w9 w10) (hv : w10.heap[gb]? = some (.cells (mkC (nwM p n (k + 1))) 137 (0, 0))) (hr : w10.heap[gr]? = some (.cells (mkC ⟨0, 0, 0, 0⟩) 137 (0, 0))) : NwR Z w0 g gd S n cs p gr gb (k + 1) w10 := by
 obtain ⟨S9, d9, hs9, b9, o9, _, _, _⟩ := lg
 have hsz := ho.size
 have h9b : ¬ S9 gb := fun hh => by
  rcases hs9 _ hh with h1 | h1
  · exact hb1 h1
  · exact absurd hb2 (by have : wr.heap.size <= gb := h1; omega)
 refine ⟨S9, ?_, fun k hk => ?_, ?_, ?_, hv, hr⟩
 · rw [<- hpm]
   exact Z.only d9 h10 (fun k hk hh => h9b (hh ▸ hk))
 · rcases hs9 k hk with h1 | h1
   · exact hs k h1
   · exact .inr (Nat.le_trans hsz h1)
 · rw [hq]
   have := b9.only h10 hgb
   rwa [Array.setIfInBounds_setIfInBounds] at this
 · have o19 : Only (fun k => S k \/ k = g \/ k = gb) w0 w9 := (show Only _ w0 wr.drew from ho.drew).trans' o9 (fun k hk hh => by
    rcases hh with h1 | h1
    · rcases hs k h1 with h2 | h2
      · exact .inl h2
      · omega
    · exact .inr (.inl h1))
   exact o19.trans' h10 (fun k hk hh => .inr (.inr hh))
theorem res_mk {fn : Func} {p : Tmp} (h : fn.results = #[.cell p 137]) (tmps : Array Value) {w : World} {g : Nat} {k : Mk} (hp : tmps.getD p undef = .pointer (some ⟨g, 0, none⟩)) (hB : w.heap[g]? = some (.cells (mkC k) 137 (0, 0))) :
 (results fn tmps).run Tryz.prog w = .ok (.agg (mkC k)) w :=
 results_cell_row h tmps w g 137 _ (0, 0) _ hp hB Tryz.underlying137 rfl (by kernel_rfl)
theorem step_storeMw {w : World} {ops : Array Oper} {o : Oper} {a : Act} {K : Act -> World -> Prop} {Q : Exit -> Act -> World -> Prop} {F : Prop} (hgd : o.guard = none) (x y : Operand) (ho : o.op = .store 137 x y)
 (g : Nat) (k : Mk) (hx : a.eval x = .pointer (some ⟨g, 0, none⟩)) (hy : a.eval y = .agg (mkC k)) (old : Array Value) (hB : w.heap[g]? = some (.cells old 137 (0, 0))) (ho' : old.size = 4)
 (h : ∀ w', w' = w.setRow g (mkC k) -> K (a.put o.dst undef) w') : if Region.wanted o (yielded ops a.tmps) = true then Oper.wp Tryz.prog o a w K Q else F :=
 step_storeM hgd x y ho g k hx hy old hB ho' (h _ rfl)
theorem newest_any (d : Z.D w gd S n p.m) (ok : p.m.Ok n) (h : PoB w g gd p.e cs 142) (hg : ¬ S g) :
 Calls Tryz.prog 108 #[.pointer (some ⟨g, 0, none⟩)] w (fun en W' => en = .returned (.agg (mkC (nwM p n 2))) /\ LeftP Z w g gd S n cs 142 (nwP p n 2) W') := by
 obtain ⟨w0, hw0⟩ : ∃ w0, (w.alloc (.cells #[.int .u64 0, .int .u64 0, .int .u32 0, .int .u32 0] 137)).alloc (.cells #[.int .u64 0, .int .u64 0, .int .u32 0, .int .u32 0] 137) = w0 := ⟨_, rfl⟩
 have hb : Below w.heap.size w w0 := by rw [<- hw0]; exact ((Below.refl _ _).alloc (Nat.le_refl _) _).alloc (by simp) _
 have hr : w0.heap[w.heap.size]? = some (.cells (mkC ⟨0, 0, 0, 0⟩) 137 (0, 0)) := by
  rw [<- hw0]
  exact (Below.heap_alloc _ _ _ (by simp)).trans (heap_alloc_new w _)
 have hv : w0.heap[w.heap.size + 1]? = some (.cells (mkC ⟨0, 0, 0, 0⟩) 137 (0, 0)) := by
  rw [<- hw0]
  have := heap_alloc_new (w.alloc (.cells #[.int .u64 0, .int .u64 0, .int .u32 0, .int .u32 0] 137)) (.cells #[.int .u64 0, .int .u64 0, .int .u32 0, .int .u32 0] 137)
  simpa [mkC] using this
 have hlt : g < w.heap.size := h.lt
 have h0 := h.below hb
 have d0 : Z.D w0 gd S n p.m := Z.only d (Only.of_below (S := fun _ => False) hb (Nat.le_refl _)) (fun _ _ h => h)
 have hn : Hid (NwR Z w0 g gd S n cs p w.heap.size (w.heap.size + 1) 0 w0) := lH ⟨S, d0, fun _ hk => .inl hk, by rw [show nwP p n 0 = p from rfl, h0.same]; exact h0, Only.refl _ _, hv, hr⟩
 have HLS : Hid (∀ k, S k -> k < w.heap.size) := lH (fun k hk => Z.lt d k hk)
 have W0 := lH hw0
 have B0 := lH hb
 have OK := lH ok
 have HG := lH hg
 have hl0 : w.heap.size + 1 < w0.heap.size := (Array.getElem?_eq_some_iff.1 hv).1
 have HL0 := lH hl0
 obtain ⟨R, hR⟩ : ∃ R, nwM p n 2 = R := ⟨_, rfl⟩
 obtain ⟨Q2, hQ2⟩ : ∃ R, nwP p n 2 = R := ⟨_, rfl⟩
 rw [hR, hQ2]
 have HRR := lH hR
 have HQQ := lH hQ2
 clear hw0 hb hr hv h h0 d d0 ok hg hl0 hR hQ2
 go_enter Tryz.func108, Tryz.ntmps108
 go_upto_region 2 with fail
 rw [W0.out]
 go_wp2_with fail
 go_loopw [7] (fun i wr => ∃ k : Nat, k <= 2 /\ i = .int .i64 (k : Int) /\ NwR Z w0 g gd S n cs p w.heap.size (w.heap.size + 1) k wr) (fun i _ => 2 - (Go.RowKit.intOf i).toNat)
 case atStart => exact ⟨0, by omega, rfl, hn.out⟩
 case round =>
  obtain ⟨k, hk, rfl, hrel⟩ := hrel
  by_cases hlt' : k < 2
  · obtain ⟨S', d', hs', hb', ho', hv', hr'⟩ := hrel
    have hg' : ¬ S' g := fun hh => by
     rcases hs' g hh with h1 | h1
     · exact HG.out h1
     · have := HL0.out; omega
    have hgv : ¬ S' (w.heap.size + 1) := fun hh => by
     rcases hs' _ hh with h1 | h1
     · have := HLS.out _ h1; omega
     · have := HL0.out; omega
    have hgr : ¬ S' w.heap.size := fun hh => by
     rcases hs' _ hh with h1 | h1
     · have := HLS.out _ h1; omega
     · have := HL0.out; omega
    have hsz : w.heap.size + 1 < wr.heap.size := (Array.getElem?_eq_some_iff.1 hv').1
    have hpm := nwP_m p n k
    have hpm1 := nwP_m p n (k + 1)
    obtain ⟨q, hq⟩ : ∃ q, nwP p n k = q := ⟨_, rfl⟩
    obtain ⟨q', hq'⟩ : ∃ q', nwP p n (k + 1) = q' := ⟨_, rfl⟩
    have hqq : q.rd n (k : Int) = q' := by rw [<- hq, <- hq']; rfl
    obtain ⟨s, hs⟩ : ∃ s, q.rdS n (k : Int) = s := ⟨_, rfl⟩
    have okq : q.m.Ok n := by rw [<- hq, hpm]; exact OK.out
    have hsl : s.length = 512 := by rw [<- hs]; exact q.rdS_len okq _
    obtain ⟨best, hbest⟩ : ∃ b, nwM p n k = b := ⟨_, rfl⟩
    obtain ⟨x, hx⟩ : ∃ x, markS s = x := ⟨_, rfl⟩
    obtain ⟨b, hbb⟩ : ∃ b, markB n s = b := ⟨_, rfl⟩
    have hnew : nwM p n (k + 1) = if b = true /\ best.num < x.num then x else best := by
     show (if markB n ((nwP p n k).rdS n (k : Int)) = true /\ (nwM p n k).num < (markS ((nwP p n k).rdS n (k : Int))).num then markS ((nwP p n k).rdS n (k : Int)) else nwM p n k) = _
     rw [hq, hs, hx, hbb, hbest]
    rw [hq] at hb' hpm
    rw [hq'] at hpm1
    rw [hbest] at hv'
    rw [<- hpm] at d'
    obtain ⟨cq, hcq⟩ : ∃ c, cs.setIfInBounds 1 (.int .i64 q.e) = c := ⟨_, rfl⟩
    rw [hcq] at hb'
    have CR : Hid (∀ W, Below wr.heap.size wr W -> Calls Tryz.prog 139 #[.pointer (some ⟨g, 0, none⟩), .int .i64 (k : Int)] W (fun en W' => en = .returned (.agg (cellsB s).toArray) /\ LeftP Z W g gd S' n cq 142 q' W')) := lH (fun W hW => by
     have := pord_any q (k : Int) (Z.only d' (Only.of_below (S := fun _ => False) hW (Nat.le_refl _)) (fun _ _ h => h)) okq (by omega) (hb'.below hW) hg'
     rwa [hqq, hs] at this)
    have CM : Hid (∀ W0 W, LeftP Z W0 g gd S' n cq 142 q' W -> Calls Tryz.prog 138 #[.agg (cellsB s).toArray, .pointer (some ⟨gd, 0, none⟩)] W (RetMk W x b)) := lH (fun W0 W hL => by
     obtain ⟨S2, d2, _⟩ := hL
     rw [hpm1] at d2
     have := markOf_any s d2 OK.out hsl
     rwa [hx, hbb] at this)
    have GD : Hid (PoB wr g gd q.e cq 142) := lH hb'
    have HV := lH hv'
    have HR := lH hr'
    have HO := lH ho'
    have HSZ := lH hsz
    have HS' := lH hs'
    have HLT' : Hid (∀ k, S' k -> k < wr.heap.size) := lH (fun k hk => Z.lt d' k hk)
    have GLT : Hid (g < wr.heap.size) := lH hb'.lt
    have G3 := lH (And.intro hg' (And.intro hgv hgr))
    have HN := lH hnew
    have HPM1 := lH hpm1
    have HCQ := lH hcq
    have HQ' := lH hq'
    have gdc := hb'.d
    clear hpm hpm1 hq hq' hqq hs okq hsl hbest hx hbb hnew d' hcq hb' hv' hr' ho' hs' hg' hgv hgr hsz
    go_wp2_with fail
    refine wp_region_held_drew (S := fun W => W.cell? ⟨g, 0, none⟩ = some (.pointer (some ⟨gd, 0, none⟩))) (by kernel_rfl) (by exact gdc) (fun hHeld => ?_)
    refine tk9 (i := 0) (h := ?_)
    try simp only [aP,aN,aS,aZ,aC]
    refine tk9 (i := 1) (h := ?_)
    try simp only [aP,aN,aS,aZ,aC]
    refine tk9 (i := 2) (h := ?_)
    try simp only [aP,aN,aS,aZ,aC]
    refine tk9 (i := 3) (h := ?_)
    try simp only [aP,aN,aS,aZ,aC]
    refine tk9 (i := 5) (h := ?_)
    try simp only [aP,aN,aS,aZ,aC]
    refine tk9 (i := 6) (h := ?_)
    try simp only [aP,aN,aS,aZ,aC]
    refine tk9 (i := 7) (h := ?_)
    try simp only [aP,aN,aS,aZ,aC]
    refine tk9 (i := 8) (h := ?_)
    try simp only [aP,aN,aS,aZ,aC]
    refine tk9 (i := 9) (h := ?_)
    try simp only [aP,aN,aS,aZ,aC]
    have BX : Hid (Below wr.heap.size wr wr.drew) := lH (Below.refl _ wr).drew
    refine wpAnyH_ready (rs := [4, 14]) (by kernel_rfl) (by simp) ?_
    refine rc9 (h := fun K hK => ?_) (hs := (rc9 (h := fun K hK => ?_) (hs := AllReadyH.nil)))
    · go_simp
      refine (CR.out _ BX.out).mono ?_
      rintro en w1 ⟨rfl, l1⟩
      have L1 := lH l1
      clear l1
      refine hK _ _ L1.out.ptr (fun hH4 => ?_)
      clear hK K
      try simp only [aP,aN,aS,aZ,aC]
      refine wpAnyH_ready (rs := [10, 14]) (by kernel_rfl) (by simp) ?_
      refine rc9 (h := fun K hK => ?_) (hs := (rc9 (h := fun K hK => ?_) (hs := AllReadyH.nil)))
      · go_simp
        refine (CM.out _ _ L1.out).mono ?_
        rintro en w5 ⟨rfl, b5⟩
        have L2 := lH (L1.out.belowR' b5)
        clear b5
        refine hK _ _ L2.out.ptr (fun hH10 => ?_)
        clear hK K
        try simp only [aP,aN,aS,aZ,aC]
        refine tk9 (i := 11) (h := ?_)
        try simp only [aP,aN,aS,aZ,aC]
        refine tk9 (i := 12) (h := ?_)
        try simp only [aP,aN,aS,aZ,aC]
        refine tk9 (i := 13) (h := ?_)
        try simp only [aP,aN,aS,aZ,aC]
        refine rd9 (i := 14) (h := fun K hK => ?_)
        go_simp
        have LG := lH (L2.out.gm ⟨0, 0, 0, 0⟩)
        refine hK _ _ LG.out.left.ptr (fun hH14 => ?_)
        clear hK K
        try simp only [aP,aN,aS,aZ,aC]
        refine rd9 (i := 15) (h := fun K hK => ?_)
        refine step_storeMw rfl (.tmp 5) (.tmp 22) rfl (w5.heap.size) x rfl rfl _ (LG.out.choose_spec.2.2.2.2.2.1) rfl ?_
        intro w9 hw9
        have lg9 : LeftG Z wr.drew g gd S' n cq 142 q' (w5.heap.size) x w9 := by rw [hw9]; exact LG.out.row (k' := x) GLT.out
        have LG9 := lH lg9
        refine hK _ _ lg9.left.ptr (fun hH15 => ?_)
        clear hK K lg9 hw9
        try simp only [aP,aN,aS,aZ,aC]
        refine tk9 (i := 16) (h := ?_)
        try simp only [aP,aN,aS,aZ,aC]
        refine wpAnyH_done (by kernel_rfl) ?_ _
        have HM9 : Hid (w9.heap[w5.heap.size]? = some (.cells (mkC x) 137 (0, 0))) := lH (LG9.out.choose_spec.2.2.2.2.2.1)
        have HV9 : Hid (w9.heap[w.heap.size + 1]? = some (.cells (mkC best) 137 (0, 0))) := lH ((LG9.out.left.blk (show w.heap.size + 1 < wr.drew.heap.size from HSZ.out) G3.out.2.1 (by omega)).trans HV.out)
        have HR9 : Hid (w9.heap[w.heap.size]? = some (.cells (mkC ⟨0, 0, 0, 0⟩) 137 (0, 0))) := lH ((LG9.out.left.blk (show w.heap.size < wr.drew.heap.size from Nat.lt_of_succ_lt HSZ.out) G3.out.2.2 (by omega)).trans HR.out)
        have kx : w9.cell? ⟨w5.heap.size, 0, none⟩ = some (.int .u64 (x.num : Int)) := cell_of_row w9 _ 0 _ _ (0, 0) HM9.out
        have kb : w9.cell? ⟨w.heap.size + 1, 0, none⟩ = some (.int .u64 (best.num : Int)) := cell_of_row w9 _ 0 _ _ (0, 0) HV9.out
        have NX : Hid (∀ w10, Only (fun k => k = w.heap.size + 1) w9 w10 -> w10.heap[w.heap.size + 1]? = some (.cells (mkC (nwM p n (k + 1))) 137 (0, 0)) -> w10.heap[w.heap.size]? = some (.cells (mkC ⟨0, 0, 0, 0⟩) 137 (0, 0)) -> NwR Z w0 g gd S n cs p w.heap.size (w.heap.size + 1) (k + 1) w10) := lH (fun w10 o10 v10 r10 => by
         have lgn : LeftG Z wr.drew g gd S' n (cs.setIfInBounds 1 (.int .i64 q.e)) 142 q' (w5.heap.size) x w9 := by rw [HCQ.out]; exact LG9.out
         exact NwR.next HO.out HS'.out lgn HQ'.out HPM1.out (by omega) G3.out.2.1 HSZ.out o10 v10 r10)
        cases b
        · have NE : Hid (nwM p n (k + 1) = best) := lH (by rw [HN.out, if_neg (by simp)])
          go_wp2_with fail
          go_roundw
          case rel => exact ⟨k + 1, by omega, by go_num, NX.out _ (Only.refl _ _) (by rw [NE.out]; exact HV9.out) HR9.out⟩
          case measure => simp [Go.RowKit.intOf]; omega
        · by_cases hlt2 : best.num < x.num
          · have NE : Hid (nwM p n (k + 1) = x) := lH (by rw [HN.out, if_pos ⟨rfl, hlt2⟩])
            have hi2 : (best.num : Int) < (x.num : Int) := by omega
            have hd2 : decide ((best.num : Int) < (x.num : Int)) = true := decide_eq_true hi2
            go_wp2_with (first
             | (refine wpList_load_row rfl 137 (.tmp 5) rfl (w5.heap.size) rfl _ (mkC x) (0, 0) _ HM9.out Tryz.underlying137 rfl infoMk ?_)
             | (refine wpList_store_row rfl 137 (.tmp 3) (.tmp 32) rfl (w.heap.size + 1) (mkC x) rfl rfl _ _ HV9.out infoMk (by simp [mkC]) (by simp [mkC, Value.oneCell']) ?_))
            go_roundw
            case rel => exact ⟨k + 1, by omega, by go_num, NX.out _ ((Only.refl _ _).setRow (S := fun k => k = w.heap.size + 1) rfl _) (by rw [NE.out]; exact setRow_heap _ _ _ _ _ _ HV9.out) ((((Only.refl _ w9).setRow (S := fun k => k = w.heap.size + 1) rfl (mkC x)).block w.heap.size (Array.getElem?_eq_some_iff.1 HR9.out).1 (by omega)).trans HR9.out)⟩
            case measure => simp [Go.RowKit.intOf]; omega
          · have NE : Hid (nwM p n (k + 1) = best) := lH (by rw [HN.out, if_neg (fun hh => hlt2 hh.2)])
            have hi2 : ¬ (best.num : Int) < (x.num : Int) := by omega
            have hd2 : decide ((best.num : Int) < (x.num : Int)) = false := decide_eq_false hi2
            go_wp2_with fail
            go_roundw
            case rel => exact ⟨k + 1, by omega, by go_num, NX.out _ (Only.refl _ _) (by rw [NE.out]; exact HV9.out) HR9.out⟩
            case measure => simp [Go.RowKit.intOf]; omega
      · go_simp
        have LH := lH (L1.out.gm ⟨0, 0, 0, 0⟩)
        refine hK _ _ LH.out.left.ptr (fun hH14 => ?_)
        clear hK K
        try simp only [aP,aN,aS,aZ,aC]
        refine rd9 (i := 10) (h := fun K hK => ?_)
        go_simp
        refine (CM.out _ _ LH.out.left).mono ?_
        rintro en w5 ⟨rfl, b5⟩
        have LG := lH (LH.out.below b5)
        clear b5
        refine hK _ _ LG.out.left.ptr (fun hH10 => ?_)
        clear hK K
        try simp only [aP,aN,aS,aZ,aC]
        refine tk9 (i := 11) (h := ?_)
        try simp only [aP,aN,aS,aZ,aC]
        refine tk9 (i := 12) (h := ?_)
        try simp only [aP,aN,aS,aZ,aC]
        refine tk9 (i := 13) (h := ?_)
        try simp only [aP,aN,aS,aZ,aC]
        refine rd9 (i := 15) (h := fun K hK => ?_)
        refine step_storeMw rfl (.tmp 5) (.tmp 22) rfl (w1.heap.size) x rfl rfl _ (LG.out.choose_spec.2.2.2.2.2.1) rfl ?_
        intro w9 hw9
        have lg9 : LeftG Z wr.drew g gd S' n cq 142 q' (w1.heap.size) x w9 := by rw [hw9]; exact LG.out.row (k' := x) GLT.out
        have LG9 := lH lg9
        refine hK _ _ lg9.left.ptr (fun hH15 => ?_)
        clear hK K lg9 hw9
        try simp only [aP,aN,aS,aZ,aC]
        refine tk9 (i := 16) (h := ?_)
        try simp only [aP,aN,aS,aZ,aC]
        refine wpAnyH_done (by kernel_rfl) ?_ _
        have HM9 : Hid (w9.heap[w1.heap.size]? = some (.cells (mkC x) 137 (0, 0))) := lH (LG9.out.choose_spec.2.2.2.2.2.1)
        have HV9 : Hid (w9.heap[w.heap.size + 1]? = some (.cells (mkC best) 137 (0, 0))) := lH ((LG9.out.left.blk (show w.heap.size + 1 < wr.drew.heap.size from HSZ.out) G3.out.2.1 (by omega)).trans HV.out)
        have HR9 : Hid (w9.heap[w.heap.size]? = some (.cells (mkC ⟨0, 0, 0, 0⟩) 137 (0, 0))) := lH ((LG9.out.left.blk (show w.heap.size < wr.drew.heap.size from Nat.lt_of_succ_lt HSZ.out) G3.out.2.2 (by omega)).trans HR.out)
        have kx : w9.cell? ⟨w1.heap.size, 0, none⟩ = some (.int .u64 (x.num : Int)) := cell_of_row w9 _ 0 _ _ (0, 0) HM9.out
        have kb : w9.cell? ⟨w.heap.size + 1, 0, none⟩ = some (.int .u64 (best.num : Int)) := cell_of_row w9 _ 0 _ _ (0, 0) HV9.out
        have NX : Hid (∀ w10, Only (fun k => k = w.heap.size + 1) w9 w10 -> w10.heap[w.heap.size + 1]? = some (.cells (mkC (nwM p n (k + 1))) 137 (0, 0)) -> w10.heap[w.heap.size]? = some (.cells (mkC ⟨0, 0, 0, 0⟩) 137 (0, 0)) -> NwR Z w0 g gd S n cs p w.heap.size (w.heap.size + 1) (k + 1) w10) := lH (fun w10 o10 v10 r10 => by
         have lgn : LeftG Z wr.drew g gd S' n (cs.setIfInBounds 1 (.int .i64 q.e)) 142 q' (w1.heap.size) x w9 := by rw [HCQ.out]; exact LG9.out
         exact NwR.next HO.out HS'.out lgn HQ'.out HPM1.out (by omega) G3.out.2.1 HSZ.out o10 v10 r10)
        cases b
        · have NE : Hid (nwM p n (k + 1) = best) := lH (by rw [HN.out, if_neg (by simp)])
          go_wp2_with fail
          go_roundw
          case rel => exact ⟨k + 1, by omega, by go_num, NX.out _ (Only.refl _ _) (by rw [NE.out]; exact HV9.out) HR9.out⟩
          case measure => simp [Go.RowKit.intOf]; omega
        · by_cases hlt2 : best.num < x.num
          · have NE : Hid (nwM p n (k + 1) = x) := lH (by rw [HN.out, if_pos ⟨rfl, hlt2⟩])
            have hi2 : (best.num : Int) < (x.num : Int) := by omega
            have hd2 : decide ((best.num : Int) < (x.num : Int)) = true := decide_eq_true hi2
            go_wp2_with (first
             | (refine wpList_load_row rfl 137 (.tmp 5) rfl (w1.heap.size) rfl _ (mkC x) (0, 0) _ HM9.out Tryz.underlying137 rfl infoMk ?_)
             | (refine wpList_store_row rfl 137 (.tmp 3) (.tmp 32) rfl (w.heap.size + 1) (mkC x) rfl rfl _ _ HV9.out infoMk (by simp [mkC]) (by simp [mkC, Value.oneCell']) ?_))
            go_roundw
            case rel => exact ⟨k + 1, by omega, by go_num, NX.out _ ((Only.refl _ _).setRow (S := fun k => k = w.heap.size + 1) rfl _) (by rw [NE.out]; exact setRow_heap _ _ _ _ _ _ HV9.out) ((((Only.refl _ w9).setRow (S := fun k => k = w.heap.size + 1) rfl (mkC x)).block w.heap.size (Array.getElem?_eq_some_iff.1 HR9.out).1 (by omega)).trans HR9.out)⟩
            case measure => simp [Go.RowKit.intOf]; omega
          · have NE : Hid (nwM p n (k + 1) = best) := lH (by rw [HN.out, if_neg (fun hh => hlt2 hh.2)])
            have hi2 : ¬ (best.num : Int) < (x.num : Int) := by omega
            have hd2 : decide ((best.num : Int) < (x.num : Int)) = false := decide_eq_false hi2
            go_wp2_with fail
            go_roundw
            case rel => exact ⟨k + 1, by omega, by go_num, NX.out _ (Only.refl _ _) (by rw [NE.out]; exact HV9.out) HR9.out⟩
            case measure => simp [Go.RowKit.intOf]; omega
    · go_simp
      have BY : Hid (Below wr.heap.size wr.drew (wr.drew.alloc (.cells #[.int .u64 0, .int .u64 0, .int .u32 0, .int .u32 0] 137))) := lH ((Below.refl _ wr.drew).alloc (Nat.le_refl _) _)
      have HZ : Hid ((wr.drew.alloc (.cells #[.int .u64 0, .int .u64 0, .int .u32 0, .int .u32 0] 137)).heap[wr.heap.size]? = some (.cells (mkC ⟨0, 0, 0, 0⟩) 137 (0, 0))) := lH (heap_alloc_new wr.drew _)
      refine hK _ _ (by exact (GD.out.below (BX.out.trans BY.out)).d) (fun hH14 => ?_)
      clear hK K
      try simp only [aP,aN,aS,aZ,aC]
      refine rd9 (i := 4) (h := fun K hK => ?_)
      go_simp
      refine (CR.out _ (BX.out.trans BY.out)).mono ?_
      rintro en w1 ⟨rfl, l1⟩
      have LH := lH (LeftG.read (w := wr.drew) BY.out HZ.out (Nat.le_refl _) HLT'.out GLT.out l1)
      clear l1
      refine hK _ _ LH.out.left.ptr (fun hH4 => ?_)
      clear hK K
      try simp only [aP,aN,aS,aZ,aC]
      refine rd9 (i := 10) (h := fun K hK => ?_)
      go_simp
      refine (CM.out _ _ LH.out.left).mono ?_
      rintro en w5 ⟨rfl, b5⟩
      have LG := lH (LH.out.below b5)
      clear b5
      refine hK _ _ LG.out.left.ptr (fun hH10 => ?_)
      clear hK K
      try simp only [aP,aN,aS,aZ,aC]
      refine tk9 (i := 11) (h := ?_)
      try simp only [aP,aN,aS,aZ,aC]
      refine tk9 (i := 12) (h := ?_)
      try simp only [aP,aN,aS,aZ,aC]
      refine tk9 (i := 13) (h := ?_)
      try simp only [aP,aN,aS,aZ,aC]
      refine rd9 (i := 15) (h := fun K hK => ?_)
      refine step_storeMw rfl (.tmp 5) (.tmp 22) rfl (wr.heap.size) x rfl rfl _ (LG.out.choose_spec.2.2.2.2.2.1) rfl ?_
      intro w9 hw9
      have lg9 : LeftG Z wr.drew g gd S' n cq 142 q' (wr.heap.size) x w9 := by rw [hw9]; exact LG.out.row (k' := x) GLT.out
      have LG9 := lH lg9
      refine hK _ _ lg9.left.ptr (fun hH15 => ?_)
      clear hK K lg9 hw9
      try simp only [aP,aN,aS,aZ,aC]
      refine tk9 (i := 16) (h := ?_)
      try simp only [aP,aN,aS,aZ,aC]
      refine wpAnyH_done (by kernel_rfl) ?_ _
      have HM9 : Hid (w9.heap[wr.heap.size]? = some (.cells (mkC x) 137 (0, 0))) := lH (LG9.out.choose_spec.2.2.2.2.2.1)
      have HV9 : Hid (w9.heap[w.heap.size + 1]? = some (.cells (mkC best) 137 (0, 0))) := lH ((LG9.out.left.blk (show w.heap.size + 1 < wr.drew.heap.size from HSZ.out) G3.out.2.1 (by omega)).trans HV.out)
      have HR9 : Hid (w9.heap[w.heap.size]? = some (.cells (mkC ⟨0, 0, 0, 0⟩) 137 (0, 0))) := lH ((LG9.out.left.blk (show w.heap.size < wr.drew.heap.size from Nat.lt_of_succ_lt HSZ.out) G3.out.2.2 (by omega)).trans HR.out)
      have kx : w9.cell? ⟨wr.heap.size, 0, none⟩ = some (.int .u64 (x.num : Int)) := cell_of_row w9 _ 0 _ _ (0, 0) HM9.out
      have kb : w9.cell? ⟨w.heap.size + 1, 0, none⟩ = some (.int .u64 (best.num : Int)) := cell_of_row w9 _ 0 _ _ (0, 0) HV9.out
      have NX : Hid (∀ w10, Only (fun k => k = w.heap.size + 1) w9 w10 -> w10.heap[w.heap.size + 1]? = some (.cells (mkC (nwM p n (k + 1))) 137 (0, 0)) -> w10.heap[w.heap.size]? = some (.cells (mkC ⟨0, 0, 0, 0⟩) 137 (0, 0)) -> NwR Z w0 g gd S n cs p w.heap.size (w.heap.size + 1) (k + 1) w10) := lH (fun w10 o10 v10 r10 => by
       have lgn : LeftG Z wr.drew g gd S' n (cs.setIfInBounds 1 (.int .i64 q.e)) 142 q' (wr.heap.size) x w9 := by rw [HCQ.out]; exact LG9.out
       exact NwR.next HO.out HS'.out lgn HQ'.out HPM1.out (by omega) G3.out.2.1 HSZ.out o10 v10 r10)
      cases b
      · have NE : Hid (nwM p n (k + 1) = best) := lH (by rw [HN.out, if_neg (by simp)])
        go_wp2_with fail
        go_roundw
        case rel => exact ⟨k + 1, by omega, by go_num, NX.out _ (Only.refl _ _) (by rw [NE.out]; exact HV9.out) HR9.out⟩
        case measure => simp [Go.RowKit.intOf]; omega
      · by_cases hlt2 : best.num < x.num
        · have NE : Hid (nwM p n (k + 1) = x) := lH (by rw [HN.out, if_pos ⟨rfl, hlt2⟩])
          have hi2 : (best.num : Int) < (x.num : Int) := by omega
          have hd2 : decide ((best.num : Int) < (x.num : Int)) = true := decide_eq_true hi2
          go_wp2_with (first
           | (refine wpList_load_row rfl 137 (.tmp 5) rfl (wr.heap.size) rfl _ (mkC x) (0, 0) _ HM9.out Tryz.underlying137 rfl infoMk ?_)
           | (refine wpList_store_row rfl 137 (.tmp 3) (.tmp 32) rfl (w.heap.size + 1) (mkC x) rfl rfl _ _ HV9.out infoMk (by simp [mkC]) (by simp [mkC, Value.oneCell']) ?_))
          go_roundw
          case rel => exact ⟨k + 1, by omega, by go_num, NX.out _ ((Only.refl _ _).setRow (S := fun k => k = w.heap.size + 1) rfl _) (by rw [NE.out]; exact setRow_heap _ _ _ _ _ _ HV9.out) ((((Only.refl _ w9).setRow (S := fun k => k = w.heap.size + 1) rfl (mkC x)).block w.heap.size (Array.getElem?_eq_some_iff.1 HR9.out).1 (by omega)).trans HR9.out)⟩
          case measure => simp [Go.RowKit.intOf]; omega
        · have NE : Hid (nwM p n (k + 1) = best) := lH (by rw [HN.out, if_neg (fun hh => hlt2 hh.2)])
          have hi2 : ¬ (best.num : Int) < (x.num : Int) := by omega
          have hd2 : decide ((best.num : Int) < (x.num : Int)) = false := decide_eq_false hi2
          go_wp2_with fail
          go_roundw
          case rel => exact ⟨k + 1, by omega, by go_num, NX.out _ (Only.refl _ _) (by rw [NE.out]; exact HV9.out) HR9.out⟩
          case measure => simp [Go.RowKit.intOf]; omega
  · obtain rfl : k = 2 := by omega
    obtain ⟨S', d', hs', hb', ho', hv', hr'⟩ := hrel
    have hgr : ¬ S' w.heap.size := fun hh => by
     rcases hs' _ hh with h1 | h1
     · have := HLS.out _ h1; omega
     · have := HL0.out; omega
    rw [HRR.out] at hv'
    rw [HQQ.out] at hb'
    have hm2 : Q2.m = p.m := by rw [<- HQQ.out]; exact nwP_m p n 2
    have HE : Hid (LeftP Z w g gd S n cs 142 Q2 (wr.setRow w.heap.size (mkC R))) := lH (by
     have o1 : Only (fun k => k = w.heap.size) wr (wr.setRow w.heap.size (mkC R)) := (Only.refl _ wr).setRow (S := fun k => k = w.heap.size) rfl _
     refine ⟨S', ?_, fun k hk => (hs' k hk).imp id fun h => Nat.le_trans B0.out.size h, hb'.only o1 (by omega), ?_⟩
     · rw [hm2]
       exact Z.only d' o1 (fun k hk hh => hgr (hh ▸ hk))
     · exact ((Only.of_below B0.out (Nat.le_refl _)).trans' ho' (fun k hk hh => by
        rcases hh with h1 | h1 | h1
        · exact .inl h1
        · exact .inr h1
        · omega)).trans' o1 (fun k hk hh => by omega))
    have HV := lH hv'
    have HR := lH hr'
    clear d' hs' hb' ho' hv' hr' hgr hm2
    go_wp2_with (first
     | (refine wpList_load_row rfl 137 (.tmp 3) rfl (w.heap.size + 1) rfl _ (mkC R) (0, 0) _ HV.out Tryz.underlying137 rfl infoMk ?_)
     | (refine wpList_store_row rfl 137 (.tmp 2) (.tmp 34) rfl w.heap.size (mkC R) rfl rfl _ _ HR.out infoMk (by simp [mkC]) (by simp [mkC, Value.oneCell']) ?_))
    refine bodyPost_ret (v := .agg (mkC R)) (res_mk (p := 2) rfl _ rfl (setRow_heap _ _ _ _ _ _ HR.out)) (by rfl) ?_
    exact ⟨rfl, HE.out⟩
end
end Go.Proofs.YthoebjekkfhhgaaGreat
