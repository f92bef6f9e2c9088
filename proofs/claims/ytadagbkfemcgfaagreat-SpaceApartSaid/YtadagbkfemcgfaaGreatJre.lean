/-
  Own work. The journal: Read.
-/
import Derived.Test.YtadagbkfemcgfaaGreatJy
namespace Go.Proofs.YtadagbkfemcgfaaGreat
open Go.RowKit Go.Maps
set_option linter.unusedVariables false
set_option linter.unusedSimpArgs false

section
variable {Z : DK} {w w' W W' : World} {g gd gp n : Nat} {S T : Nat → Prop} {e : Int} {j : JM} {m : RM} {p : Pt}
/-- What lies in the map for home i. -/
def frL (j : JM) (i : Nat) : List UInt8 := if (j.fresh.getD i emp).size = 0 then zer 512 else lst (j.fresh.getD i emp)
def frB (j : JM) (i : Nat) : Bool := decide ((j.fresh.getD i emp).size ≠ 0)
theorem frL_len (h : j.Ok n) {i : Nat} (hi : i < j.homes n) : (frL j i).length = 512 := by
  unfold frL
  split
  · exact zer_len 512
  · rename_i h0
    rw [lst_len]
    refine (h.fs _ ?_).resolve_left h0
    rw [List.getD_eq_getElem?_getD, List.getElem?_eq_getElem (by rw [h.fl]; exact hi)]
    exact List.getElem_mem _
set_option maxRecDepth 100000 in
theorem wp_lookJ {ops : Array Oper} {rest : List Oper} {o : Oper} {a : Act} {Q : Exit → Act → World → Prop} (hg : o.guard = none) (mo xo : Operand) (hop : o.op = Op.lookup 102 mo xo true)
    (hm : a.eval mo = .map (some gp)) (i : Nat) (hx : a.eval xo = .int .i64 (i : Int)) (h : JO W g gd gp n e j) (hn : n ≤ 4096) (hi : i < j.homes n)
    (hK : wpList Tryz.prog ops Q rest (a.put o.dst (.tuple #[.agg (cellsB (frL j i)).toArray, .bool (frB j i)])) W) : wpList Tryz.prog ops Q (o :: rest) a W := by
  obtain ⟨D, hmm, hD⟩ := h.map
  refine wpList_lookup_own_ok W hg mo xo 102 hop 3 98 intK Tryz.underlying102 secElem (zeroJsec W) (.lit (.string (zer 512))) [] (secElem_mk (zer_len 512)) gp j.used D hm hmm _ (kI i) hx (keyI (by have := h.sizeH hn; omega)) ?_
  intro v ps hv
  obtain ⟨l, rfl, hl, e⟩ := secElem_inv hv
  rw [Prod.mk.injEq] at e
  have e1 := e.1
  rw [hD.hi i hi]
  have el : l = frL j i := by
    unfold frL
    by_cases h0 : (j.fresh.getD i emp).size = 0
    · rw [if_pos h0]
      rw [hD.no hi h0] at e1
      injection e1 with e1
      injection e1 with e1
      exact e1.symm
    · rw [if_neg h0]
      rw [hD.at_ i hi h0] at e1
      injection e1 with e1
      injection e1 with e1
      exact e1.symm
  subst el
  exact hK
def RetRd (Z : DK) (w : World) (g gd gp n : Nat) (S : Nat → Prop) (l : List UInt8) (k : Int) (p : Pt) (j : JM) (e : Ending) (w' : World) : Prop :=
  ∃ A q c, e = .returned (.tuple #[.slice A q c, .int .i64 k]) ∧ OwnX w' w.heap.size (.slice A q c) l ∧ LeftJ Z w g gd gp n S p j w'
set_option maxRecDepth 100000 in
theorem jread_no (i : Int) (h : JO w g gd gp n p.e j) (d : Z.D w gd S n p.m) (ok : p.m.Ok n) (hi : -9223372036854775808 ≤ i ∧ i ≤ 9223372036854775807) (hx : chkE p j ≠ 0 ∨ i < 0 ∨ (j.homes n : Int) ≤ i) :
    Calls Tryz.prog 42 #[.pointer (some ⟨g, 0, none⟩), .int .i64 i] w (RetRd Z w g gd gp n S [] (if chkE p j ≠ 0 then 8 else 1) p j) := by
  have C := Lib.hid (jcheck_any h d ok)
  have LL : Hid (∀ W, Below w.heap.size w W → LeftJ Z w g gd gp n S p j W) := Lib.hid (fun W hW => LeftJ.below hW d h)
  by_cases h1 : chkE p j ≠ 0
  · have h8 : chkE ⟨p.m, p.e⟩ j = 8 := by
      have h9 : chkE ⟨p.m, p.e⟩ j = if p.e ≠ 0 ∨ p.m.powers ≠ j.lives then 8 else 0 := rfl
      rw [h9]
      split
      · rfl
      · rename_i hh
        exact absurd (show chkE p j = 0 by unfold chkE; rw [if_neg hh]) h1
    rw [if_pos h1]
    rw [h8] at C
    clear h d ok h1 h8 hx
    go_enter Tryz.func42, Tryz.ntmps42
    go_wp2_with (go_at_call 65; refine C.out.mono ?_; rintro en w1 ⟨rfl, k, rfl⟩)
    go_ret2
    exact ⟨none, 0, 0, rfl, OwnX.nil _ _, LL.out _ ⟨rfl, rfl, rfl, Nat.le_refl _, fun _ _ => rfl⟩⟩
  · have h8 : chkE ⟨p.m, p.e⟩ j = 0 := Decidable.not_not.1 h1
    rw [if_neg h1]
    rw [h8] at C
    have hd : decide (0 ≤ i ∧ i < (j.homes n : Int)) = false := decide_eq_false (by rcases hx with h2 | h2; exact absurd h2 h1; omega)
    have CI : Hid (∀ k, Calls Tryz.prog 66 #[.pointer (some ⟨g, 0, none⟩), .int .i64 i] (w.drewN k) (RetV2 (w.drewN k) (.bool false))) := Lib.hid (fun k => by
      have := jishome_any i (h.drewN k) (DK.drewN d k) ok hi
      rwa [hd] at this)
    clear h d ok h1 h8 hx hd
    go_enter Tryz.func42, Tryz.ntmps42
    go_wp2_with (first
      | (go_at_call 65; refine C.out.mono ?_; rintro en w1 ⟨rfl, k, rfl⟩)
      | (go_at_call 66; refine (CI.out k).mono ?_; rintro en w2 ⟨rfl, b2⟩))
    go_ret2
    exact ⟨none, 0, 0, rfl, OwnX.nil _ _, LL.out _ ⟨b2.os, b2.tape, b2.output, b2.size, b2.block⟩⟩
set_option maxRecDepth 100000 in
set_option maxHeartbeats 1000000 in
theorem jread_fresh (i : Nat) (h : JO w g gd gp n p.e j) (d : Z.D w gd S n p.m) (ok : p.m.Ok n) (hc : chkE p j = 0) (hi : i < j.homes n) (hf : (j.fresh.getD i emp).size ≠ 0) :
    Calls Tryz.prog 42 #[.pointer (some ⟨g, 0, none⟩), .int .i64 (i : Int)] w (RetRd Z w g gd gp n S (lst (j.fresh.getD i emp)) 0 p j) := by
  have n2 := ok.n2
  have C := Lib.hid (jcheck_any h d ok)
  have h8 : chkE ⟨p.m, p.e⟩ j = 0 := hc
  rw [h8] at C
  have he : p.e = 0 := by
    by_cases q : p.e = 0
    · exact q
    · unfold chkE at hc
      rw [if_pos (.inl q)] at hc
      cases hc
  have LL : Hid (∀ W, Below w.heap.size w W → LeftJ Z w g gd gp n S p j W) := Lib.hid (fun W hW => LeftJ.below hW d h)
  have H := Lib.hid h
  have hd : decide (0 ≤ (i : Int) ∧ (i : Int) < (j.homes n : Int)) = true := decide_eq_true (by omega)
  have hhn := h.sizeH n2
  have CI : Hid (∀ k, Calls Tryz.prog 66 #[.pointer (some ⟨g, 0, none⟩), .int .i64 (i : Int)] (w.drewN k) (RetV2 (w.drewN k) (.bool true))) := Lib.hid (fun k => by
    have := jishome_any (i : Int) (h.drewN k) (DK.drewN d k) ok (by omega)
    rwa [hd] at this)
  have HI := Lib.hid hi
  have FB : Hid (frB j i = true) := Lib.hid (by unfold frB; exact decide_eq_true hf)
  have FL : Hid (frL j i = lst (j.fresh.getD i emp)) := Lib.hid (by unfold frL; rw [if_neg hf])
  have FN := Lib.hid (frL_len h.ok hi)
  obtain ⟨l, hl⟩ : ∃ l, lst (j.fresh.getD i emp) = l := ⟨_, rfl⟩
  rw [hl] at FL ⊢
  rw [FL.out] at FN
  have HE := Lib.hid he
  clear h d ok hc h8 hd hf hl hi he
  go_enter Tryz.func42, Tryz.ntmps42
  go_wp2_with (first
    | (go_at_call 65; refine C.out.mono ?_; rintro en w1 ⟨rfl, k, rfl⟩)
    | (go_at_call 66; refine (CI.out k).mono ?_; rintro en w2 ⟨rfl, b2⟩
       have B2 : Hid (Below w.heap.size w w2) := Lib.hid ⟨b2.os, b2.tape, b2.output, b2.size, b2.block⟩
       have O2 := Lib.hid (H.out.below B2.out)
       have c8 := O2.out.c8
       have c1 := O2.out.c1
       rw [HE.out] at c1
       have Z2 : Hid (Bw (w2.alloc (.cells (cellsB zsec).toArray 98)) w2.heap.size 98 zsec) := Lib.hid (Bw.new w2 zsec _)
       clear b2)
    | (refine wp_lookJ rfl (.tmp 22) (.tmp 23) rfl rfl i rfl O2.out n2 HI.out ?_; rw [FB.out, FL.out])
    | (rw [zc97]; refine wp_store_sec rfl (.tmp 7) (.tmp 25) rfl w2.heap.size l rfl rfl _ zsec Z2.out zsec_len FN.out ?_; intro w3 h3 o3
       have H3 := Lib.hid h3
       have B3 : Hid (Below w2.heap.size w2 w3) := Lib.hid (((Below.refl _ w2).alloc (Nat.le_refl _) _).trans (o3.to_below (B := w2.heap.size) (fun k hk => by omega) (by simp)))
       have c13 : w3.cell? ⟨g, 1, none⟩ = some (.int .i64 0) := (B3.out.cell (by exact O2.out.lt)).trans c1
       clear h3 o3))
  go_ret2
  exact ⟨some ⟨w2.heap.size, 0, none⟩, 512, 512, rfl, OwnX.of_block H3.out B2.out.size FN.out.symm (by simp only [maxLen]; omega), LL.out _ (B2.out.trans (B3.out.mono B2.out.size))⟩
theorem jrd_on (a : Apart w g gp S) (l : LeftJ Z w g gd gp n S p j W) (ok : p.m.Ok n) (i : Int) (hi : -9223372036854775808 ≤ i ∧ i ≤ 9223372036854775807) :
    Calls Tryz.prog 67 #[.pointer (some ⟨g, 0, none⟩), .int .i64 i] W (fun en W' => en = .returned (.agg (cellsB (p.rdS n i)).toArray) ∧ LeftJ Z w g gd gp n S (p.rd n i) j W') := by
  obtain ⟨S', d', hs', hg', hp'⟩ := l.nog a.s1 a.s2 a.l1 a.l2
  refine (pord_any p i d' ok hi l.o.po hg').mono ?_
  rintro en W' ⟨he, lp⟩
  exact ⟨he, l.trans hs' (LeftJ.port l.o hg' hp' lp)⟩
theorem step_store_sec {w : World} {ops : Array Oper} {o : Oper} {a : Act} {K : Act → World → Prop} {Q : Exit → Act → World → Prop} {F : Prop} (hgd : o.guard = none) (x y : Operand) (ho : o.op = .store 98 x y)
    (g : Nat) (s : List UInt8) (hx : a.eval x = .pointer (some ⟨g, 0, none⟩)) (hy : a.eval y = .agg (cellsB s).toArray) (t : TypeId) (old : List UInt8) (hB : Bw w g t old) (ho' : old.length = 512) (hs : s.length = 512)
    (h : ∀ w', Bw w' g t s → Only (fun k => k = g) w w' → K (a.put o.dst undef) w') : if Region.wanted o (yielded ops a.tmps) = true then Oper.wp Tryz.prog o a w K Q else F := by
  have hw : Region.wanted o (yielded ops a.tmps) = true := by simp [Region.wanted, hgd]
  rw [if_pos hw]
  exact wp_store_row _ x y ho g _ hx hy t _ hB (sec_iv hs) (by rw [cellsB_size, cellsB_size, ho', hs]) (cellsB_ones s) (h _ hB.row ((Only.refl _ w).setRow (S := fun k => k = g) rfl _))
theorem Pt.rdS_len (p : Pt) {n : Nat} (ok : p.m.Ok n) (i : Int) : (p.rdS n i).length = 512 := by
  unfold Pt.rdS
  split
  · rename_i h
    have hz := h.2
    have hi : 0 ≤ i ∧ i < n := by
      unfold RM.readE at hz
      split at hz
      · cases hz
      · split at hz
        · cases hz
        · omega
    rw [lst_len']
    unfold RM.readS RM.at_
    rw [if_pos hz]
    split
    · exact ok.lsz' (by omega)
    · rename_i hw
      exact (ok.wsz' (i := i.toNat) (by omega)).resolve_left hw
  · exact zsec_len
set_option maxRecDepth 100000 in
set_option maxHeartbeats 2000000 in
theorem jread_disk (i : Nat) (h : JO w g gd gp n p.e j) (d : Z.D w gd S n p.m) (ok : p.m.Ok n) (hc : chkE p j = 0) (hi : i < j.homes n) (hf : (j.fresh.getD i emp).size = 0) (a : Apart w g gp S) :
    Calls Tryz.prog 42 #[.pointer (some ⟨g, 0, none⟩), .int .i64 (i : Int)] w (RetRd Z w g gd gp n S (if p.m.readE n (j.k.atHome i : Nat) ≠ 0 then [] else lst (p.m.readS n (j.k.atHome i : Nat))) (p.m.readE n (j.k.atHome i : Nat)) (p.rd n (j.k.atHome i : Nat)) j) := by
  have n2 := ok.n2
  have C := Lib.hid (jcheck_any h d ok)
  have h8 : chkE ⟨p.m, p.e⟩ j = 0 := hc
  rw [h8] at C
  have he : p.e = 0 := by
    by_cases q : p.e = 0
    · exact q
    · unfold chkE at hc
      rw [if_pos (.inl q)] at hc
      cases hc
  have LL : Hid (∀ W, Below w.heap.size w W → LeftJ Z w g gd gp n S p j W) := Lib.hid (fun W hW => LeftJ.below hW d h)
  have H := Lib.hid h
  have hd : decide (0 ≤ (i : Int) ∧ (i : Int) < (j.homes n : Int)) = true := decide_eq_true (by omega)
  have hhn := h.sizeH n2
  have CI : Hid (∀ k, Calls Tryz.prog 66 #[.pointer (some ⟨g, 0, none⟩), .int .i64 (i : Int)] (w.drewN k) (RetV2 (w.drewN k) (.bool true))) := Lib.hid (fun k => by
    have := jishome_any (i : Int) (h.drewN k) (DK.drewN d k) ok (by omega)
    rwa [hd] at this)
  have HI := Lib.hid hi
  have FB : Hid (frB j i = false) := Lib.hid (by unfold frB; exact decide_eq_false (fun hh => hh hf))
  have FL : Hid (frL j i = zsec) := Lib.hid (by unfold frL; rw [if_pos hf]; rfl)
  have FN := Lib.hid (frL_len h.ok hi)
  rw [FL.out] at FN
  have HE := Lib.hid he
  have fit := h.ok.fit
  have r2 := h.ok.r2
  have D0 := Lib.hid d
  have AP := Lib.hid a
  obtain ⟨x, hx⟩ : ∃ x, j.k.atHome i = x := ⟨_, rfl⟩
  have hx2 : x ≤ 10000 := by rw [← hx]; show 2 + j.k.ring + i ≤ 10000; omega
  have CA : Hid (∀ W, Calls Tryz.prog 68 #[.agg (mkC j.k), .int .i64 (i : Int)] W (RetV2 W (.int .i64 (x : Int)))) := Lib.hid (fun W => by have := atHome_any j.k i W fit (by omega); rwa [hx] at this)
  rw [hx]
  obtain ⟨q, hq⟩ : ∃ q, p.rd n (x : Int) = q := ⟨_, rfl⟩
  obtain ⟨s, hs⟩ : ∃ s, p.rdS n (x : Int) = s := ⟨_, rfl⟩
  have SN : Hid (s.length = 512) := Lib.hid (by rw [← hs]; exact p.rdS_len ok _)
  have hqe : q.e = p.m.readE n (x : Int) := by rw [← hq]; unfold Pt.rd; rw [if_pos he]
  have hse : p.m.readE n (x : Int) = 0 → s = lst (p.m.readS n (x : Int)) := fun h0 => by rw [← hs]; unfold Pt.rdS; rw [if_pos ⟨he, h0⟩]
  obtain ⟨E, hE⟩ : ∃ E, p.m.readE n (x : Int) = E := ⟨_, rfl⟩
  rw [hE] at hqe hse
  rw [hE, hq]
  obtain ⟨R, hR⟩ : ∃ R, (if E ≠ 0 then [] else lst (p.m.readS n (x : Int))) = R := ⟨_, rfl⟩
  rw [hR]
  have CR : Hid (∀ W0 W (S' : Nat → Prop), Apart W0 g gp S' → LeftJ Z W0 g gd gp n S' p j W → Calls Tryz.prog 67 #[.pointer (some ⟨g, 0, none⟩), .int .i64 (x : Int)] W (fun en W' => en = .returned (.agg (cellsB s).toArray) ∧ LeftJ Z W0 g gd gp n S' q j W')) := Lib.hid (fun W0 W S' hA hL => by
    have := jrd_on hA hL ok (x : Int) (by omega)
    rwa [hq, hs] at this)
  have HSE := Lib.hid hse
  have HQE := Lib.hid hqe
  have HR := Lib.hid hR
  clear h d ok hc h8 hd hf hi he a hx hq hs hqe hse hE hR
  go_enter Tryz.func42, Tryz.ntmps42
  go_upto_region 8 with (first
    | (go_at_call 65; refine C.out.mono ?_; rintro en w1 ⟨rfl, k, rfl⟩)
    | (go_at_call 66; refine (CI.out k).mono ?_; rintro en w2 ⟨rfl, b2⟩
       have B2 : Hid (Below w.heap.size w w2) := Lib.hid ⟨b2.os, b2.tape, b2.output, b2.size, b2.block⟩
       have O2 := Lib.hid (H.out.below B2.out)
       have c8 := O2.out.c8
       have c1 := O2.out.c1
       rw [HE.out] at c1
       have Z2 : Hid (Bw (w2.alloc (.cells (cellsB zsec).toArray 98)) w2.heap.size 98 zsec) := Lib.hid (Bw.new w2 zsec _)
       clear b2)
    | (refine wp_lookJ rfl (.tmp 22) (.tmp 23) rfl rfl i rfl O2.out n2 HI.out ?_; rw [FB.out, FL.out])
    | (rw [zc97]; refine wp_store_sec rfl (.tmp 7) (.tmp 25) rfl w2.heap.size zsec rfl rfl _ zsec Z2.out zsec_len FN.out ?_; intro w3 h3 o3
       have H3 := Lib.hid h3
       have B3 : Hid (Below w2.heap.size w2 w3) := Lib.hid (((Below.refl _ w2).alloc (Nat.le_refl _) _).trans (o3.to_below (B := w2.heap.size) (fun k hk => by omega) (by simp)))
       have c13 : w3.cell? ⟨g, 1, none⟩ = some (.int .i64 0) := (B3.out.cell (by exact O2.out.lt)).trans c1
       clear h3 o3))
  have b23 : Below w.heap.size w w3 := B2.out.trans (B3.out.mono B2.out.size)
  have o3 := O2.out.below B3.out
  have d3 : Z.D w3 gd S n p.m := Z.only D0.out (Only.of_below (S := fun _ => False) b23 (Nat.le_refl _)) (fun _ _ h => h)
  have A3 : Hid (Apart w3 g gp S) := Lib.hid ⟨AP.out.s1, AP.out.s2, o3.lt, o3.ltp, AP.out.ne⟩
  have L3 : Hid (LeftJ Z w3 g gd gp n S p j w3) := Lib.hid (LeftJ.same d3 o3)
  have B23 := Lib.hid b23
  have HLT : w2.heap.size < w3.heap.size := H3.out.lt
  have KEEP : Hid (∀ W q, LeftJ Z w3 g gd gp n S q j W → Bw W w2.heap.size 98 zsec) := Lib.hid (fun W q hW => H3.out.keepO hW.y (fun hh => by
    rcases hh with h1 | h1 | h1
    · have := Z.lt D0.out _ h1; have := B2.out.size; omega
    · have := O2.out.lt; omega
    · have := O2.out.ltp; omega))
  clear b23 o3 d3 c13
  go_wp2_with fail
  refine wp_region_held_drew (S := fun W => ∃ e, JO W g gd gp n e j) (by kernel_rfl) ⟨_, L3.out.drew.o⟩ (fun hHeld => ?_)
  refine wpAnyH_take (i := 0) (v := ?v0a) (by simp only [List.getElem?_toArray, List.getElem?_cons_succ, List.getElem?_cons_zero]; rfl) (by kernel_rfl) (by kernel_rfl) (by kernel_rfl) (by exact fun _ _ _ h => h) (Or.inl ⟨by rfl, ?h0a⟩) (by assumption) ?_
  case h0a => (intro W hSw; (try dsimp only at hSw); go_simp; try with_reducible rfl)
  try simp only [Act.put, List.setIfInBounds_toArray, List.set_cons_zero, List.set_cons_succ]
  refine wpAnyH_take (i := 1) (v := ?v1a) (by simp only [List.getElem?_toArray, List.getElem?_cons_succ, List.getElem?_cons_zero]; rfl) (by kernel_rfl) (by kernel_rfl) (by kernel_rfl) (by exact fun _ _ _ h => h) (Or.inl ⟨by rfl, ?h1a⟩) (by assumption) ?_
  case h1a => (intro W hSw; (try dsimp only at hSw); go_simp; try with_reducible rfl)
  try simp only [Act.put, List.setIfInBounds_toArray, List.set_cons_zero, List.set_cons_succ]
  refine wpAnyH_take (i := 2) (v := ?v2a) (by simp only [List.getElem?_toArray, List.getElem?_cons_succ, List.getElem?_cons_zero]; rfl) (by kernel_rfl) (by kernel_rfl) (by kernel_rfl) (by exact fun _ _ _ h => h) (Or.inl ⟨by rfl, ?h2a⟩) (by assumption) ?_
  case h2a => (intro W hSw; (try dsimp only at hSw); go_simp; try with_reducible rfl)
  try simp only [Act.put, List.setIfInBounds_toArray, List.set_cons_zero, List.set_cons_succ]
  refine wpAnyH_take (i := 3) (v := ?v3a) (by simp only [List.getElem?_toArray, List.getElem?_cons_succ, List.getElem?_cons_zero]; rfl) (by kernel_rfl) (by kernel_rfl) (by kernel_rfl) (by exact fun _ _ _ h => h) (Or.inl ⟨by rfl, ?h3a⟩) (by assumption) ?_
  case h3a => (intro W hSw; (try dsimp only at hSw); go_simp; try with_reducible rfl)
  try simp only [Act.put, List.setIfInBounds_toArray, List.set_cons_zero, List.set_cons_succ]
  refine wpAnyH_take (i := 4) (v := ?v4a) (by simp only [List.getElem?_toArray, List.getElem?_cons_succ, List.getElem?_cons_zero]; rfl) (by kernel_rfl) (by kernel_rfl) (by kernel_rfl) (by exact fun _ _ _ h => h) (Or.inl ⟨by rfl, ?h4a⟩) (by assumption) ?_
  case h4a => (intro W hSw; (try dsimp only at hSw); go_simp; try with_reducible rfl)
  try simp only [Act.put, List.setIfInBounds_toArray, List.set_cons_zero, List.set_cons_succ]
  refine wpAnyH_take (i := 5) (v := ?v5a) (by simp only [List.getElem?_toArray, List.getElem?_cons_succ, List.getElem?_cons_zero]; rfl) (by kernel_rfl) (by kernel_rfl) (by kernel_rfl) (by exact fun _ _ _ h => h) (Or.inl ⟨by rfl, ?h5a⟩) (by assumption) ?_
  case h5a => (intro W hSw; (try dsimp only at hSw); go_simp; try with_reducible rfl)
  try simp only [Act.put, List.setIfInBounds_toArray, List.set_cons_zero, List.set_cons_succ]
  refine wpAnyH_take (i := 6) (by simp only [List.getElem?_toArray, List.getElem?_cons_succ, List.getElem?_cons_zero]; rfl) (by kernel_rfl) (by kernel_rfl) (by kernel_rfl) (by exact fun _ _ _ h => h) (yieldsIf_loadG (by rfl) 101 (.tmp 34) rfl ⟨g, 2, none⟩ rfl _ (fun W hW => hW.choose_spec.mark)) (by assumption) ?_
  try simp only [Act.put, List.setIfInBounds_toArray, List.set_cons_zero, List.set_cons_succ]
  refine wpAnyH_take (i := 7) (v := ?v7a) (by simp only [List.getElem?_toArray, List.getElem?_cons_succ, List.getElem?_cons_zero]; rfl) (by kernel_rfl) (by kernel_rfl) (by kernel_rfl) (by exact fun _ _ _ h => h) (Or.inl ⟨by rfl, ?h7a⟩) (by assumption) ?_
  case h7a => (intro W hSw; (try dsimp only at hSw); go_simp; try with_reducible rfl)
  try simp only [Act.put, List.setIfInBounds_toArray, List.set_cons_zero, List.set_cons_succ]
  refine wpAnyH_ready (rs := [8]) (by kernel_rfl) (by simp) ?_
  refine AllReadyH.cons (by simp only [List.getElem?_toArray, List.getElem?_cons_succ, List.getElem?_cons_zero]; rfl) (fun K hK => ?_) AllReadyH.nil
  go_simp
  refine (CA.out _).mono ?_
  rintro en w6 ⟨rfl, b6⟩
  have L6 := Lib.hid (L3.out.drew.belowR b6)
  clear b6
  refine hK _ _ ⟨_, L6.out.o⟩ (fun hH8 => ?_)
  clear hK K
  try simp only [Act.put, List.setIfInBounds_toArray, List.set_cons_zero, List.set_cons_succ]
  refine wpAnyH_ready (rs := [9]) (by kernel_rfl) (by simp) ?_
  refine AllReadyH.cons (by simp only [List.getElem?_toArray, List.getElem?_cons_succ, List.getElem?_cons_zero]; rfl) (fun K hK => ?_) AllReadyH.nil
  go_simp
  refine (CR.out _ _ _ A3.out L6.out).mono ?_
  rintro en w8 ⟨rfl, l8⟩
  have L8 := Lib.hid l8
  clear l8
  refine hK _ _ ⟨_, L8.out.o⟩ (fun hH9 => ?_)
  clear hK K
  try simp only [Act.put, List.setIfInBounds_toArray, List.set_cons_zero, List.set_cons_succ]
  refine wpAnyH_ready (rs := [10]) (by kernel_rfl) (by simp) ?_
  refine AllReadyH.cons (by simp only [List.getElem?_toArray, List.getElem?_cons_succ, List.getElem?_cons_zero]; rfl) (fun K hK => ?_) AllReadyH.nil
  refine step_store_sec rfl (.tmp 7) (.tmp 38) rfl w2.heap.size s rfl rfl _ zsec (KEEP.out _ _ L8.out) zsec_len SN.out ?_
  intro w9 h9 o9
  have jo9 := L8.out.o.only o9 (by have := O2.out.lt; omega) (by have := O2.out.ltp; omega)
  refine hK _ _ ⟨_, jo9⟩ (fun hH10 => ?_)
  clear hK K
  try simp only [Act.put, List.setIfInBounds_toArray, List.set_cons_zero, List.set_cons_succ]
  have c19 := jo9.c1
  rw [HQE.out] at c19
  have H9 := Lib.hid h9
  have l82 := LeftJ.from B3.out L8.out
  have L9 : Hid (LeftJ Z w g gd gp n S q j w9) := Lib.hid (by
    obtain ⟨S8, d8, hs8⟩ := L8.out.d
    obtain ⟨S9, d9, hs9⟩ := l82.d
    refine LeftJ.from B2.out ⟨⟨S8, Z.only d8 o9 (fun k hk hh => by
      rcases hs8 k hk with h1 | h1
      · have := Z.lt D0.out _ h1; have := B2.out.size; omega
      · omega), fun k hk => (hs8 k hk).imp id (fun h => by omega)⟩, jo9, l82.y.trans' o9 (fun k hk hh => by omega)⟩)
  clear l82
  clear h9 o9 jo9
  refine wpAnyH_done (by kernel_rfl) ?_ _
  by_cases hE0 : E = 0
  · have hE1 : (E != 0) = false := by rw [hE0]; rfl
    have RV : Hid (R = s) := Lib.hid (by rw [← HR.out, if_neg (fun hh => hh hE0), HSE.out hE0])
    have E0 := Lib.hid hE0
    clear hE0
    go_wp2_with fail
    go_ret2
    rw [RV.out, E0.out]
    exact ⟨some ⟨w2.heap.size, 0, none⟩, 512, 512, rfl, OwnX.of_block H9.out B2.out.size SN.out.symm (by simp only [maxLen]; omega), L9.out⟩
  · have hE1 : (E != 0) = true := by rw [bne_iff_ne]; exact hE0
    have RV : Hid (R = []) := Lib.hid (by rw [← HR.out, if_pos hE0])
    clear hE0
    go_wp2_with fail
    go_quiet (fail)
    go_wp2_with fail
    go_ret2
    rw [RV.out]
    exact ⟨none, 0, 0, rfl, OwnX.nil _ _, L9.out.belowR ⟨rfl, rfl, rfl, Nat.le_refl _, fun _ _ => rfl⟩⟩
/-- Read, of any number. -/
theorem jread_any (i : Int) (h : JO w g gd gp n p.e j) (d : Z.D w gd S n p.m) (ok : p.m.Ok n) (hi : -9223372036854775808 ≤ i ∧ i ≤ 9223372036854775807) (a : Apart w g gp S) :
    Calls Tryz.prog 42 #[.pointer (some ⟨g, 0, none⟩), .int .i64 i] w (RetRd Z w g gd gp n S (jrS p n j i) (jrE p n j i) (jrP p n j i) j) := by
  by_cases hc : chkE p j = 0
  · by_cases hx : i < 0 ∨ (j.homes n : Int) ≤ i
    · have q := jread_no (Z := Z) (S := S) i h d ok hi (Or.inr hx)
      simp only [jrS, jrE, jrP, hc, hx, ne_eq, not_true_eq_false, if_false, if_true, reduceIte] at q ⊢
      simpa using q
    · obtain ⟨k, rfl⟩ : ∃ k : Nat, i = (k : Int) := ⟨i.toNat, by omega⟩
      have hk : k < j.homes n := by omega
      by_cases hf : (j.fresh.getD k emp).size = 0
      · have q := jread_disk (Z := Z) (S := S) k h d ok hc hk hf a
        simp only [jrS, jrE, jrP, hc, hx, hf, ne_eq, not_true_eq_false, if_false, reduceIte, Int.toNat_natCast] at q ⊢
        exact q
      · have q := jread_fresh (Z := Z) (S := S) k h d ok hc hk hf
        simp only [jrS, jrE, jrP, hc, hx, hf, ne_eq, not_true_eq_false, not_false_eq_true, if_false, if_true, reduceIte, Int.toNat_natCast] at q ⊢
        exact q
  · have q := jread_no (Z := Z) (S := S) i h d ok hi (Or.inl hc)
    simp only [jrS, jrE, jrP, hc, ne_eq, not_false_eq_true, if_true, reduceIte] at q ⊢
    simpa using q

end
end Go.Proofs.YtadagbkfemcgfaaGreat
