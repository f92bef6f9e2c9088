/-
  Own work.
-/
import Derived.Test.YthoebjekkfhhgaaGreatCp9
import Derived.Test.YthoebjekkfhhgaaGreatT7
import Derived.Test.YthoebjekkfhhgaaGreatT8
set_option linter.unusedVariables false
set_option linter.unusedSimpArgs false
set_option maxRecDepth 100000
set_option maxHeartbeats 8000000
namespace Go.Proofs.YthoebjekkfhhgaaGreat
open Go.RowKit Go.Maps
section
variable {Z : DK} {w w' W W' : World} {g gd gp n : Nat} {S T : Nat -> Prop} {e : Int} {j : JM} {m : RM} {p : Pt}
def RdAp (Z : DK) (w : World) (g gd gp n : Nat) (S : Nat -> Prop) (p : Pt) (A : Option Addr) (w' : World) : Prop :=
 ∃ S', Z.D w' gd S' n p.m /\ (∀ k, S' k -> S k \/ w.heap.size <= k) /\ ∀ a, A = some a -> ¬ S' a.block /\ a.block ≠ g /\ a.block ≠ gp
theorem rdAp_nil (l : LeftJ Z w g gd gp n S p j w') : RdAp Z w g gd gp n S p none w' := by
 obtain ⟨S', d', hs⟩ := l.d
 exact ⟨S', d', hs, fun a h => by cases h⟩
def RetRd2 (Z : DK) (w : World) (g gd gp n : Nat) (S : Nat -> Prop) (l : List UInt8) (k : Int) (p : Pt) (j : JM) (e : Ending) (w' : World) : Prop :=
 ∃ A q c, e = .returned (.tuple #[.slice A q c, .int .i64 k]) /\ OwnX w' w.heap.size (.slice A q c) l /\ LeftJ Z w g gd gp n S p j w' /\ RdAp Z w g gd gp n S p A w'
theorem jread2_no (i : Int) (h : JO w g gd gp n p.e j) (d : Z.D w gd S n p.m) (ok : p.m.Ok n) (hi : -9223372036854775808 <= i /\ i <= 9223372036854775807) (hx : chkE p j ≠ 0 \/ i < 0 \/ (j.homes n : Int) <= i) :
 Calls Tryz.prog 125 #[.pointer (some ⟨g, 0, none⟩), .int .i64 i] w (RetRd2 Z w g gd gp n S [] (if chkE p j ≠ 0 then 8 else 1) p j) := by
 have C := lH (jcheck_any h d ok)
 have LL : Hid (∀ W, Below w.heap.size w W -> LeftJ Z w g gd gp n S p j W) := lH (fun W hW => LeftJ.below hW d h)
 by_cases h1 : chkE p j ≠ 0
 · have h8 : chkE ⟨p.m, p.e⟩ j = 8 := by
    have h9 : chkE ⟨p.m, p.e⟩ j = if p.e ≠ 0 \/ p.m.powers ≠ j.lives then 8 else 0 := rfl
    rw [h9]
    split
    · rfl
    · rename_i hh
      exact absurd (show chkE p j = 0 by unfold chkE; rw [if_neg hh]) h1
   rw [if_pos h1]
   rw [h8] at C
   clear h d ok h1 h8 hx
   go_enter Tryz.func125, Tryz.ntmps125
   go_wp2_with (go_at_call 111; refine C.out.mono ?_; rintro en w1 ⟨rfl, k, rfl⟩)
   go_ret2
   have ll := LL.out (w.drewN k) ⟨rfl, rfl, rfl, Nat.le_refl _, fun _ _ => rfl⟩
   exact ⟨none, 0, 0, rfl, OwnX.nil _ _, ll, rdAp_nil ll⟩
 · have h8 : chkE ⟨p.m, p.e⟩ j = 0 := Decidable.not_not.1 h1
   rw [if_neg h1]
   rw [h8] at C
   have hd : decide (0 <= i /\ i < (j.homes n : Int)) = false := decide_eq_false (by rcases hx with h2 | h2; exact absurd h2 h1; omega)
   have CI : Hid (∀ k, Calls Tryz.prog 112 #[.pointer (some ⟨g, 0, none⟩), .int .i64 i] (w.drewN k) (RetV2 (w.drewN k) (.bool false))) := lH (fun k => by
    have := jishome_any i (h.drewN k) (DK.drewN d k) ok hi
    rwa [hd] at this)
   clear h d ok h1 h8 hx hd
   go_enter Tryz.func125, Tryz.ntmps125
   go_wp2_with (first
    | (go_at_call 111; refine C.out.mono ?_; rintro en w1 ⟨rfl, k, rfl⟩)
    | (go_at_call 112; refine (CI.out k).mono ?_; rintro en w2 ⟨rfl, b2⟩))
   go_ret2
   have ll := LL.out _ ⟨b2.os, b2.tape, b2.output, b2.size, b2.block⟩
   exact ⟨none, 0, 0, rfl, OwnX.nil _ _, ll, rdAp_nil ll⟩
theorem jread2_fresh (i : Nat) (h : JO w g gd gp n p.e j) (d : Z.D w gd S n p.m) (ok : p.m.Ok n) (hc : chkE p j = 0) (hi : i < j.homes n) (hf : (j.fresh.getD i emp).size ≠ 0) :
 Calls Tryz.prog 125 #[.pointer (some ⟨g, 0, none⟩), .int .i64 (i : Int)] w (RetRd2 Z w g gd gp n S (lst (j.fresh.getD i emp)) 0 p j) := by
 have n2 := ok.n2
 have C := lH (jcheck_any h d ok)
 have h8 : chkE ⟨p.m, p.e⟩ j = 0 := hc
 rw [h8] at C
 have he : p.e = 0 := by
  by_cases q : p.e = 0
  · exact q
  · unfold chkE at hc
    rw [if_pos (.inl q)] at hc
    cases hc
 have LL : Hid (∀ W, Below w.heap.size w W -> LeftJ Z w g gd gp n S p j W) := lH (fun W hW => LeftJ.below hW d h)
 have H := lH h
 have hd : decide (0 <= (i : Int) /\ (i : Int) < (j.homes n : Int)) = true := decide_eq_true (by omega)
 have hhn := h.sizeH n2
 have CI : Hid (∀ k, Calls Tryz.prog 112 #[.pointer (some ⟨g, 0, none⟩), .int .i64 (i : Int)] (w.drewN k) (RetV2 (w.drewN k) (.bool true))) := lH (fun k => by
  have := jishome_any (i : Int) (h.drewN k) (DK.drewN d k) ok (by omega)
  rwa [hd] at this)
 have HI := lH hi
 have FB : Hid (frB j i = true) := lH (by unfold frB; exact decide_eq_true hf)
 have FL : Hid (frL j i = lst (j.fresh.getD i emp)) := lH (by unfold frL; rw [if_neg hf])
 have FN := lH (frL_len h.ok hi)
 obtain ⟨l, hl⟩ : ∃ l, lst (j.fresh.getD i emp) = l := ⟨_, rfl⟩
 rw [hl] at FL ⊢
 rw [FL.out] at FN
 have HE := lH he
 have D0 := lH d
 clear h d ok hc h8 hd hf hl hi he
 go_enter Tryz.func125, Tryz.ntmps125
 go_wp2_with (first
  | (go_at_call 111; refine C.out.mono ?_; rintro en w1 ⟨rfl, k, rfl⟩)
  | (go_at_call 112; refine (CI.out k).mono ?_; rintro en w2 ⟨rfl, b2⟩
     have B2 : Hid (Below w.heap.size w w2) := lH ⟨b2.os, b2.tape, b2.output, b2.size, b2.block⟩
     have O2 := lH (H.out.below B2.out)
     have c8 := O2.out.c8
     have c1 := O2.out.c1
     rw [HE.out] at c1
     have Z2 : Hid (Bw (w2.alloc (.cells (cellsB zsec).toArray 185)) w2.heap.size 185 zsec) := lH (Bw.new w2 zsec _)
     clear b2)
  | (refine wp_lookJ rfl (.tmp 22) (.tmp 23) rfl rfl i rfl O2.out n2 HI.out ?_; rw [FB.out, FL.out])
  | (rw [zc97]; refine wp_store_sec rfl (.tmp 7) (.tmp 25) rfl w2.heap.size l rfl rfl _ zsec Z2.out zsec_len FN.out ?_; intro w3 h3 o3
     have H3 := lH h3
     have B3 : Hid (Below w2.heap.size w2 w3) := lH (((Below.refl _ w2).alloc (Nat.le_refl _) _).trans (o3.to_below (B := w2.heap.size) (fun k hk => by omega) (by simp)))
     have c13 : w3.cell? ⟨g, 1, none⟩ = some (.int .i64 0) := (B3.out.cell (by exact O2.out.lt)).trans c1
     clear h3 o3))
 go_ret2
 exact ⟨some ⟨w2.heap.size, 0, none⟩, 512, 512, rfl, OwnX.of_block H3.out B2.out.size FN.out.symm (by simp only [maxLen]; omega), LL.out _ (B2.out.trans (B3.out.mono B2.out.size)), S, Z.only D0.out (Only.of_below (S := fun _ => False) (B2.out.trans (B3.out.mono B2.out.size)) (Nat.le_refl _)) (fun _ _ h => h), fun k hk => .inl hk, fun a ha => by
  injection ha with ha
  subst ha
  have := B2.out.size
  have := H.out.lt
  have := H.out.ltp
  exact ⟨fun hh => by have := Z.lt D0.out _ hh; dsimp only at this; omega, by show w2.heap.size ≠ g; omega, by show w2.heap.size ≠ gp; omega⟩⟩
theorem jread2_disk (i : Nat) (h : JO w g gd gp n p.e j) (d : Z.D w gd S n p.m) (ok : p.m.Ok n) (hc : chkE p j = 0) (hi : i < j.homes n) (hf : (j.fresh.getD i emp).size = 0) (a : Apart w g gp S) :
 Calls Tryz.prog 125 #[.pointer (some ⟨g, 0, none⟩), .int .i64 (i : Int)] w (RetRd2 Z w g gd gp n S (if p.m.readE n (j.k.atHome i : Nat) ≠ 0 then [] else lst (p.m.readS n (j.k.atHome i : Nat))) (p.m.readE n (j.k.atHome i : Nat)) (p.rd n (j.k.atHome i : Nat)) j) := by
 have n2 := ok.n2
 have C := lH (jcheck_any h d ok)
 have h8 : chkE ⟨p.m, p.e⟩ j = 0 := hc
 rw [h8] at C
 have he : p.e = 0 := by
  by_cases q : p.e = 0
  · exact q
  · unfold chkE at hc
    rw [if_pos (.inl q)] at hc
    cases hc
 have LL : Hid (∀ W, Below w.heap.size w W -> LeftJ Z w g gd gp n S p j W) := lH (fun W hW => LeftJ.below hW d h)
 have H := lH h
 have hd : decide (0 <= (i : Int) /\ (i : Int) < (j.homes n : Int)) = true := decide_eq_true (by omega)
 have hhn := h.sizeH n2
 have CI : Hid (∀ k, Calls Tryz.prog 112 #[.pointer (some ⟨g, 0, none⟩), .int .i64 (i : Int)] (w.drewN k) (RetV2 (w.drewN k) (.bool true))) := lH (fun k => by
  have := jishome_any (i : Int) (h.drewN k) (DK.drewN d k) ok (by omega)
  rwa [hd] at this)
 have HI := lH hi
 have FB : Hid (frB j i = false) := lH (by unfold frB; exact decide_eq_false (fun hh => hh hf))
 have FL : Hid (frL j i = zsec) := lH (by unfold frL; rw [if_pos hf]; rfl)
 have FN := lH (frL_len h.ok hi)
 rw [FL.out] at FN
 have HE := lH he
 have fit := h.ok.fit
 have r2 := h.ok.r2
 have D0 := lH d
 have AP := lH a
 obtain ⟨x, hx⟩ : ∃ x, j.k.atHome i = x := ⟨_, rfl⟩
 have hx2 : x <= 10000 := by rw [<- hx]; show 2 + j.k.ring + i <= 10000; omega
 have CA : Hid (∀ W, Calls Tryz.prog 114 #[.agg (mkC j.k), .int .i64 (i : Int)] W (RetV2 W (.int .i64 (x : Int)))) := lH (fun W => by have := atHome_any j.k i W fit (by omega); rwa [hx] at this)
 rw [hx]
 obtain ⟨q, hq⟩ : ∃ q, p.rd n (x : Int) = q := ⟨_, rfl⟩
 obtain ⟨s, hs⟩ : ∃ s, p.rdS n (x : Int) = s := ⟨_, rfl⟩
 have SN : Hid (s.length = 512) := lH (by rw [<- hs]; exact p.rdS_len ok _)
 have hqe : q.e = p.m.readE n (x : Int) := by rw [<- hq]; unfold Pt.rd; rw [if_pos he]
 have hse : p.m.readE n (x : Int) = 0 -> s = lst (p.m.readS n (x : Int)) := fun h0 => by rw [<- hs]; unfold Pt.rdS; rw [if_pos ⟨he, h0⟩]
 obtain ⟨E, hE⟩ : ∃ E, p.m.readE n (x : Int) = E := ⟨_, rfl⟩
 rw [hE] at hqe hse
 rw [hE, hq]
 obtain ⟨R, hR⟩ : ∃ R, (if E ≠ 0 then [] else lst (p.m.readS n (x : Int))) = R := ⟨_, rfl⟩
 rw [hR]
 have CR : Hid (∀ W0 W (S' : Nat -> Prop), Apart W0 g gp S' -> LeftJ Z W0 g gd gp n S' p j W -> Calls Tryz.prog 139 #[.pointer (some ⟨g, 0, none⟩), .int .i64 (x : Int)] W (fun en W' => en = .returned (.agg (cellsB s).toArray) /\ LeftJ Z W0 g gd gp n S' q j W')) := lH (fun W0 W S' hA hL => by
  have := jrd_on hA hL ok (x : Int) (by omega)
  rwa [hq, hs] at this)
 have HSE := lH hse
 have HQE := lH hqe
 have HR := lH hR
 clear h d ok hc h8 hd hf hi he a hx hq hs hqe hse hE hR
 go_enter Tryz.func125, Tryz.ntmps125
 go_upto_region 8 with (first
  | (go_at_call 111; refine C.out.mono ?_; rintro en w1 ⟨rfl, k, rfl⟩)
  | (go_at_call 112; refine (CI.out k).mono ?_; rintro en w2 ⟨rfl, b2⟩
     have B2 : Hid (Below w.heap.size w w2) := lH ⟨b2.os, b2.tape, b2.output, b2.size, b2.block⟩
     have O2 := lH (H.out.below B2.out)
     have c8 := O2.out.c8
     have c1 := O2.out.c1
     rw [HE.out] at c1
     have Z2 : Hid (Bw (w2.alloc (.cells (cellsB zsec).toArray 185)) w2.heap.size 185 zsec) := lH (Bw.new w2 zsec _)
     clear b2)
  | (refine wp_lookJ rfl (.tmp 22) (.tmp 23) rfl rfl i rfl O2.out n2 HI.out ?_; rw [FB.out, FL.out])
  | (rw [zc97]; refine wp_store_sec rfl (.tmp 7) (.tmp 25) rfl w2.heap.size zsec rfl rfl _ zsec Z2.out zsec_len FN.out ?_; intro w3 h3 o3
     have H3 := lH h3
     have B3 : Hid (Below w2.heap.size w2 w3) := lH (((Below.refl _ w2).alloc (Nat.le_refl _) _).trans (o3.to_below (B := w2.heap.size) (fun k hk => by omega) (by simp)))
     have c13 : w3.cell? ⟨g, 1, none⟩ = some (.int .i64 0) := (B3.out.cell (by exact O2.out.lt)).trans c1
     clear h3 o3))
 have b23 : Below w.heap.size w w3 := B2.out.trans (B3.out.mono B2.out.size)
 have o3 := O2.out.below B3.out
 have d3 : Z.D w3 gd S n p.m := Z.only D0.out (Only.of_below (S := fun _ => False) b23 (Nat.le_refl _)) (fun _ _ h => h)
 have A3 : Hid (Apart w3 g gp S) := lH ⟨AP.out.s1, AP.out.s2, o3.lt, o3.ltp, AP.out.ne⟩
 have L3 : Hid (LeftJ Z w3 g gd gp n S p j w3) := lH (LeftJ.same d3 o3)
 have B23 := lH b23
 have HLT : w2.heap.size < w3.heap.size := H3.out.lt
 have KEEP : Hid (∀ W q, LeftJ Z w3 g gd gp n S q j W -> Bw W w2.heap.size 185 zsec) := lH (fun W q hW => H3.out.keepO hW.y (fun hh => by
  rcases hh with h1 | h1 | h1
  · have := Z.lt D0.out _ h1; have := B2.out.size; omega
  · have := O2.out.lt; omega
  · have := O2.out.ltp; omega))
 clear b23 o3 d3 c13
 go_wp2_with fail
 refine wp_region_held_drew (S := fun W => ∃ e, JO W g gd gp n e j) (by kernel_rfl) ⟨_, L3.out.drew.o⟩ (fun hHeld => ?_)
 refine tk9 (i := 0) (h := ?_)
 try simp only [aP,aN,aS,aZ,aC]
 refine tk9 (i := 1) (h := ?_)
 try simp only [aP,aN,aS,aZ,aC]
 refine tk9 (i := 2) (h := ?_)
 try simp only [aP,aN,aS,aZ,aC]
 refine tk9 (i := 3) (h := ?_)
 try simp only [aP,aN,aS,aZ,aC]
 refine tk9 (i := 4) (h := ?_)
 try simp only [aP,aN,aS,aZ,aC]
 refine tk9 (i := 5) (h := ?_)
 try simp only [aP,aN,aS,aZ,aC]
 refine tk9 (i := 6) (hy := (yieldsIf_loadG (by rfl) 137 (.tmp 34) rfl ⟨g, 2, none⟩ rfl _ (fun W hW => hW.choose_spec.mark))) (h := ?_)
 try simp only [aP,aN,aS,aZ,aC]
 refine tk9 (i := 7) (h := ?_)
 try simp only [aP,aN,aS,aZ,aC]
 refine rd9 (i := 8) (h := fun K hK => ?_)
 go_simp
 refine (CA.out _).mono ?_
 rintro en w6 ⟨rfl, b6⟩
 have L6 := lH (L3.out.drew.belowR b6)
 clear b6
 refine hK _ _ ⟨_, L6.out.o⟩ (fun hH8 => ?_)
 clear hK K
 try simp only [aP,aN,aS,aZ,aC]
 refine rd9 (i := 9) (h := fun K hK => ?_)
 go_simp
 refine (CR.out _ _ _ A3.out L6.out).mono ?_
 rintro en w8 ⟨rfl, l8⟩
 have L8 := lH l8
 clear l8
 refine hK _ _ ⟨_, L8.out.o⟩ (fun hH9 => ?_)
 clear hK K
 try simp only [aP,aN,aS,aZ,aC]
 refine rd9 (i := 10) (h := fun K hK => ?_)
 refine step_store_sec rfl (.tmp 7) (.tmp 38) rfl w2.heap.size s rfl rfl _ zsec (KEEP.out _ _ L8.out) zsec_len SN.out ?_
 intro w9 h9 o9
 have jo9 := L8.out.o.only o9 (by have := O2.out.lt; omega) (by have := O2.out.ltp; omega)
 refine hK _ _ ⟨_, jo9⟩ (fun hH10 => ?_)
 clear hK K
 try simp only [aP,aN,aS,aZ,aC]
 have c19 := jo9.c1
 rw [HQE.out] at c19
 have H9 := lH h9
 have l82 := LeftJ.from B3.out L8.out
 have L9 : Hid (LeftJ Z w g gd gp n S q j w9) := lH (by
  obtain ⟨S8, d8, hs8⟩ := L8.out.d
  obtain ⟨S9, d9, hs9⟩ := l82.d
  refine LeftJ.from B2.out ⟨⟨S8, Z.only d8 o9 (fun k hk hh => by
   rcases hs8 k hk with h1 | h1
   · have := Z.lt D0.out _ h1; have := B2.out.size; omega
   · omega), fun k hk => (hs8 k hk).imp id (fun h => by omega)⟩, jo9, l82.y.trans' o9 (fun k hk hh => by omega)⟩)
 have AP9 : Hid (RdAp Z w g gd gp n S q (some ⟨w2.heap.size, 0, none⟩) w9) := lH (by
  obtain ⟨S8, d8, hs8⟩ := L8.out.d
  have hw2 := B2.out.size
  refine ⟨S8, Z.only d8 o9 (fun k hk hh => by
   rcases hs8 k hk with h1 | h1
   · have := Z.lt D0.out _ h1; omega
   · omega), fun k hk => (hs8 k hk).imp id (fun h => by omega), fun a ha => ?_⟩
  injection ha with ha
  subst ha
  have := O2.out.lt
  have := O2.out.ltp
  exact ⟨fun hh => by rcases hs8 _ hh with h1 | h1; (have := Z.lt D0.out _ h1; dsimp only at this; omega); (dsimp only at h1; omega), by show w2.heap.size ≠ g; omega, by show w2.heap.size ≠ gp; omega⟩)
 clear l82
 clear h9 o9 jo9
 refine wpAnyH_done (by kernel_rfl) ?_ _
 by_cases hE0 : E = 0
 · have hE1 : (E != 0) = false := by rw [hE0]; rfl
   have RV : Hid (R = s) := lH (by rw [<- HR.out, if_neg (fun hh => hh hE0), HSE.out hE0])
   have E0 := lH hE0
   clear hE0
   go_wp2_with fail
   go_ret2
   rw [RV.out, E0.out]
   exact ⟨some ⟨w2.heap.size, 0, none⟩, 512, 512, rfl, OwnX.of_block H9.out B2.out.size SN.out.symm (by simp only [maxLen]; omega), L9.out, AP9.out⟩
 · have hE1 : (E != 0) = true := by rw [bne_iff_ne]; exact hE0
   have RV : Hid (R = []) := lH (by rw [<- HR.out, if_pos hE0])
   clear hE0
   go_wp2_with fail
   go_quiet (fail)
   go_wp2_with fail
   go_ret2
   rw [RV.out]
   have ll := L9.out.belowR (W' := w9.drewN nq) ⟨rfl, rfl, rfl, Nat.le_refl _, fun _ _ => rfl⟩
   exact ⟨none, 0, 0, rfl, OwnX.nil _ _, ll, rdAp_nil ll⟩
theorem jread2_any (i : Int) (h : JO w g gd gp n p.e j) (d : Z.D w gd S n p.m) (ok : p.m.Ok n) (hi : -9223372036854775808 <= i /\ i <= 9223372036854775807) (a : Apart w g gp S) :
 Calls Tryz.prog 125 #[.pointer (some ⟨g, 0, none⟩), .int .i64 i] w (RetRd2 Z w g gd gp n S (jrS p n j i) (jrE p n j i) (jrP p n j i) j) := by
 by_cases hc : chkE p j = 0
 · by_cases hx : i < 0 \/ (j.homes n : Int) <= i
   · have q := jread2_no (Z := Z) (S := S) i h d ok hi (Or.inr hx)
     simp only [jrS, jrE, jrP, hc, hx, ne_eq, not_true_eq_false, if_false, if_true, reduceIte] at q ⊢
     simpa using q
   · obtain ⟨k, rfl⟩ : ∃ k : Nat, i = (k : Int) := ⟨i.toNat, by omega⟩
     have hk : k < j.homes n := by omega
     by_cases hf : (j.fresh.getD k emp).size = 0
     · have q := jread2_disk (Z := Z) (S := S) k h d ok hc hk hf a
       simp only [jrS, jrE, jrP, hc, hx, hf, ne_eq, not_true_eq_false, if_false, reduceIte, Int.toNat_natCast] at q ⊢
       exact q
     · have q := jread2_fresh (Z := Z) (S := S) k h d ok hc hk hf
       simp only [jrS, jrE, jrP, hc, hx, hf, ne_eq, not_true_eq_false, not_false_eq_true, if_false, if_true, reduceIte, Int.toNat_natCast] at q ⊢
       exact q
 · have q := jread2_no (Z := Z) (S := S) i h d ok hi (Or.inl hc)
   simp only [jrS, jrE, jrP, hc, ne_eq, not_false_eq_true, if_true, reduceIte] at q ⊢
   simpa using q
end
def InB (A : Option Addr) (k : Nat) : Prop := ∃ a, A = some a /\ a.block = k
section
variable {Z : DK} {w0 w W W' : World} {gt g gd gp n V T Tt u r h q : Nat} {p : Pt} {j : JM} {H : Nat -> List UInt8} {B M : Nat -> Prop} {ws : List ByteArray}
theorem UpB.readK (a : UpB Z w0 W g gd gp n p j B) (b : SJ p n V j T u r H) (hV : V <= 1073000000) (i : Nat) (hi : i < n - 2 - r) :
 Calls Tryz.prog 125 #[.pointer (some ⟨g, 0, none⟩), .int .i64 (i : Int)] W fun en W' => ∃ A q c, en = .returned (.tuple #[.slice A q c, .int .i64 0]) /\ OwnX W' W.heap.size (.slice A q c) (H i) /\ UpB Z w0 W' g gd gp n p j (fun k => B k \/ InB A k) /\ Only (fun k => ¬ B k) W W' := by
 obtain ⟨r1, r2, r3⟩ := b.read hV hi
 obtain ⟨_, ok, _, hw, _, _⟩ := b.jok hV
 have hn2 := ok.n2
 have a' := a
 obtain ⟨S, d, o, h1, h2, h3, h4, h5⟩ := a'
 refine (jread2_any (i : Int) o d.d ok (by omega) ⟨h1, h2, o.lt, o.ltp, o.ne⟩).mono ?_
 rintro en W' ⟨A, q, c, he, ho, lj, S9, d9, hs9, ha9⟩
 rw [r1] at he
 rw [r2] at ho
 rw [r3] at lj d9
 obtain ⟨⟨S2, d2, hs2⟩, o2, y2⟩ := lj
 have hlt := o.lt
 have hltp := o.ltp
 have hz := d.bel.size
 have hys := y2.size
 refine ⟨A, q, c, he, ho, ⟨S9, ⟨d9, fun k hk => (hs9 k hk).elim (d.s0 k) (fun h => by omega), d.bel.trans (y2.to_below (fun k hk => ?_) hz)⟩, o2, fun hh => (hs9 g hh).elim h1 (fun h => by omega), fun hh => (hs9 gp hh).elim h2 (fun h => by omega), h3, h4, fun k hk => ?_⟩, y2.mono (fun k _ hk hb => ?_)⟩
 · rcases hk with h | h | h
   · exact d.s0 k h
   · omega
   · omega
 · rcases hk with hk | ⟨x, hx, hxk⟩
   · obtain ⟨q1, q2, q3, q4, q5⟩ := h5 k hk
     exact ⟨fun hh => (hs9 k hh).elim q1 (fun h => by omega), q2, q3, q4, by omega⟩
   · obtain ⟨z1, z2, z3⟩ := ha9 x hx
     subst hxk
     by_cases hq : 0 < q
     · obtain ⟨g', e', e1, e2, _⟩ := ho.head hq
       rw [hx] at e'
       injection e' with e'
       subst e'
       exact ⟨z1, z2, z3, by dsimp only; omega, e2⟩
     · have hq0 : q = 0 := by omega
       subst hq0
       have hl := ho.len
       rcases ho.form with ⟨e, _⟩ | ⟨t, g', c', cur, e, f1, f2, _⟩
       · simp only [Value.slice.injEq] at e
         rw [hx] at e
         cases e.1
       · simp only [Value.slice.injEq] at e
         rw [hx] at e
         have e1 := e.1
         injection e1 with e1
         subst e1
         exact ⟨z1, z2, z3, by dsimp only; omega, f2⟩
 · obtain ⟨q1, q2, q3, q4, q5⟩ := h5 k hb
   rcases hk with h | h | h
   · exact q1 h
   · exact q2 h
   · exact q3 h
theorem tread_up (a : UpB Z w0 W g gd gp n p j B) (b : SJ p n V j T u r H) (hV : V <= 1073000000) (t : TO W gt g Tt (n - 2 - r) q ws M) (i : Nat) (hi : i < n - 2 - r) (hno : (ws.getD i emp).size = 0) :
 Calls Tryz.prog 91 #[.pointer (some ⟨gt, 0, none⟩), .int .i64 (i : Int)] W fun en W' => ∃ A q c, en = .returned (.tuple #[.slice A q c, .int .i64 0]) /\ OwnX W' W.heap.size (.slice A q c) (H i) /\ UpB Z w0 W' g gd gp n p j (fun k => B k \/ InB A k) /\ Only (fun k => ¬ B k) W W' := by
 have C := lH (tfin_any t)
 have CR := lH (a.readK b hV i hi)
 obtain ⟨_, ok, _⟩ := b.jok hV
 have hn2 := ok.n2
 have hib : -9223372036854775808 <= (i : Int) /\ (i : Int) <= 9223372036854775807 := by omega
 obtain ⟨gm, c0, c1, c2, v, _⟩ := t.cells
 obtain ⟨⟨D, pb, hm, hD, hb⟩, mg, ml, wl, wz, hh⟩ := v
 have HM := lH hm
 have HD := lH hD
 have HN : Hid (TNo ws (n - 2 - r) (i : Int)) := lH (.inr (.inr (by simpa using hno)))
 obtain ⟨s, hs⟩ : ∃ s, H i = s := ⟨_, rfl⟩
 rw [hs] at CR ⊢
 clear a b t ok hm hD hb ml wl wz hno hs
 go_enter Tryz.func91, Tryz.ntmps91
 go_wp2_with (first
  | (go_at_call 39; refine C.out.mono ?_; rintro e w1 ⟨rfl, rfl⟩)
  | (refine wp_lookT_no rfl (.tmp 15) (.tmp 16) rfl rfl (i : Int) hib rfl D pb HM.out HD.out HN.out ?_; intro v0)
  | (go_at_call 125; refine CR.out.mono ?_; rintro e w2 ⟨A2, q2, c2', rfl, x2, u2, y2⟩
     have X2 := lH x2
     have U2 := lH u2
     have Y2 := lH y2
     clear x2 u2 y2))
 go_ret2
 exact ⟨_, _, _, rfl, X2.out, U2.out, Y2.out⟩
end
end Go.Proofs.YthoebjekkfhhgaaGreat
