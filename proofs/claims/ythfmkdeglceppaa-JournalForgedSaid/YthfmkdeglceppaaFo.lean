/-
  Own work. The statements of layer 6: JournalForged.
-/
import Derived.Test.YthfmkdeglceppaaFh
import Derived.Test.YthfmkdeglceppaaIr
import Derived.Test.YthfmkdeglceppaaPl
import Derived.Laws.Small
import Derived.IntWalk
namespace Go.Proofs.Ythfmkdeglceppaa
open Go.RowKit Go.Maps
set_option linter.unusedVariables false
set_option linter.unusedSimpArgs false

theorem OwnV.base {E : TypeId} {w : World} {base b2 : Nat} {v : Value} {hs : List Value} (h : OwnV E w base v hs) (hb : b2 ≤ base) : OwnV E w b2 v hs := by
  refine ⟨h.1, ?_⟩
  rcases h.2 with h2 | ⟨g, c, cur, e, h3, r⟩
  · exact .inl h2
  · exact .inr ⟨g, c, cur, e, Nat.le_trans hb h3, r⟩
theorem Row5.only {w w' : World} {base g : Nat} {S : Nat → Prop} (h : Row5 w base g) (ho : Only S w w') (hg : ¬ S g) : Row5 w' base g := by
  obtain ⟨l, hl, o⟩ := h
  exact ⟨l, hl, o.only ho (fun b hb => by rw [ownB1 hb]; exact hg)⟩
theorem foL_len {i : Nat} {d : List UInt8} (hd : d.length = 512) : ∀ x ∈ foL i d, x.data.length ≤ 1073741824 := by
  intro x hx
  unfold foL at hx
  simp only [List.mem_cons, List.not_mem_nil, or_false] at hx
  rcases hx with rfl | rfl
  · show d.length ≤ _; omega
  · show d.length ≤ _; omega
theorem ownV_empty (w : World) (base : Nat) (hb : base ≤ w.heap.size) : OwnV 9 (w.alloc (.cells #[] 9)) base (.slice (some ⟨w.heap.size, 0, none⟩) 0 0) [] :=
  ⟨rfl, .inr ⟨w.heap.size, 0, #[], rfl, hb, heap_alloc_new w _, Nat.le_refl _, by decide, rfl, rfl⟩⟩
theorem OwnV.src {w : World} {base gw cw : Nat} {hs : List Value} (h : OwnV 9 w base (.slice (some ⟨gw, 0, none⟩) 50 cw) hs) : ∀ j u, hs[j]? = some u → w.cell? ((⟨gw, 0, none⟩ : Addr).add j) = some u := by
  intro j u hj
  have hl := h.len
  obtain ⟨g', e', _, _, hc⟩ := h.at_ (by decide)
  injection e' with e'
  injection e' with e'
  subst e'
  rw [Addr.add_lit, Nat.zero_add]
  exact hc j u hj
theorem strs_ones (l : List (List UInt8)) : ∀ u ∈ strs l, u.oneCell' = true := by
  intro u hu
  unfold strs at hu
  obtain ⟨x, _, rfl⟩ := List.mem_map.1 hu
  rfl
theorem frow {w : World} {base n12 c12 : Nat} {A12 : Option Addr} {H : Nat → List UInt8} (h : OwnV 9 w base (.slice A12 n12 c12) ([] ++ strs (hsL H 50))) : ∃ g12, A12 = some ⟨g12, 0, none⟩ ∧ n12 = 50 ∧ ∀ i, i < 50 → ∃ v, w.cell? ⟨g12, i, none⟩ = some v ∧ w.frozen? ⟨g12, i, none⟩ = false := by
  rw [List.nil_append] at h
  have hlen : (strs (hsL H 50)).length = 50 := by simp [strs, hsL_len]
  have hl := h.len
  rw [hlen] at hl
  subst hl
  obtain ⟨g', e', _, _, hc⟩ := h.at_ (by decide)
  subst e'
  refine ⟨g', rfl, rfl, fun i hi => ⟨_, hc i _ (List.getElem?_eq_getElem (by omega)), ?_⟩⟩
  rcases h.form with ⟨e, _⟩ | ⟨g2, c', cur, e, _, _, hg, _⟩
  · cases e
  · simp only [Value.slice.injEq, Option.some.injEq, Addr.mk.injEq, and_true] at e
    obtain ⟨rfl, -, -⟩ := e
    exact frozen_of_row w g' i _ _ hg
theorem UpB.commit6 {Z : DK} {w0 W : World} {g gd gp n : Nat} {p : Pt} {j : JM} {B : Nat → Prop} (a : UpB Z w0 W g gd gp n p j B) (ok : p.m.Ok n) (hw : p.m.wrote ≤ 1073720000) (A : Option Addr) (nl cl : Nat) (l : List Pu) (hp : HasPu W A nl l) (hn : nl ≤ 1000) (hdl : ∀ x ∈ l, x.data.length ≤ 1073741824) (hu : j.used ≤ j.k.ring) :
    Calls Try.prog 21 #[.pointer (some ⟨g, 0, none⟩), .slice A nl cl] W fun en W' => en = .returned (.int .i64 (cmt p n j l).e) ∧ UpB Z w0 W' g gd gp n (cmt p n j l).p (cmt p n j l).j B ∧ Only (fun k => ¬ B k) W W' :=
  a.call6 fun S d o ap => jcommit_any A nl cl l o d ap ok hw hp hn hdl hu
theorem alike_s {W : World} {A B : Option Addr} {n c d : Nat} {xs ys : List (List UInt8)} (ha : HasS W A n xs) (hb : HasS W B n ys) (hn : n ≤ 100000) (b : Bool) (h : decide (xs = ys) = b) :
    Calls Try.prog 23 #[.slice A n c, .slice B n d] W fun en W' => en = .returned (.bool b) ∧ Below W.heap.size W W' ∧ Only (fun _ => False) W W' := by
  have q := alike_any (c := c) (d := d) ha hb hn hn
  rw [h] at q
  refine q.mono ?_
  rintro en W' ⟨rfl, k, rfl⟩
  have hb : Below W.heap.size W (W.drewN k) := ⟨rfl, rfl, rfl, Nat.le_refl _, fun _ _ => rfl⟩
  exact ⟨rfl, hb, Only.of_below hb (Nat.le_refl _)⟩
set_option maxRecDepth 100000 in
set_option maxHeartbeats 16000000 in
theorem forged_law (Z : DK) (A0 : Option Addr) (n0 c0 : Nat) (z0 : List Int) (A1 : Option Addr) (n1 c1 : Nat) (z1 : List Int) (a2 a3 : Int) (A4 : Option Addr) (n4 c4 : Nat) (z4 : List Bool) (w : World) (hi0 : HasIr w w.heap.size A0 n0 z0) (hi1 : HasIr w w.heap.size A1 n1 z1) (h2 : -9223372036854775808 ≤ a2 ∧ a2 ≤ 9223372036854775807) (h3 : -9223372036854775808 ≤ a3 ∧ a3 ≤ 9223372036854775807) (ho : HasBo w w.heap.size A4 n4 z4) (hc4 : n4 ≤ c4) :
    Calls Try.prog 5 #[.slice A0 n0 c0, .slice A1 n1 c1, .int .i64 a2, .int .i64 a3, .slice A4 n4 c4] w (RetTrue w) := by
  have CB := Lib.hid (fun W => begun6_any Z W)
  have HI0 := Lib.hid hi0
  have HI1 := Lib.hid hi1
  have HO := Lib.hid ho
  have L0 := Lib.hid hi0.1
  have L1 := Lib.hid hi1.1
  by_cases hl0 : 12 < n0
  · have hl : (12 : Int) < (n0 : Int) := by omega
    clear hi0 hi1 ho h2 h3
    go_enter Try.func5, Try.ntmps5
    go_wp2_with (first
      | (go_at_call 11; refine (CB.out _).mono ?_; rintro e w1 ⟨rfl, b1⟩
         have B1 := Lib.hid b1
         clear b1))
    go_ret
    exact ⟨rfl, B1.out⟩
  by_cases hl1 : 12 < n1
  · have hl : (12 : Int) < (n1 : Int) := by omega
    have hn0' : ¬ (12 : Int) < (n0 : Int) := by omega
    clear hi0 hi1 ho h2 h3
    go_enter Try.func5, Try.ntmps5
    go_wp2_with (first
      | (go_at_call 11; refine (CB.out _).mono ?_; rintro e w1 ⟨rfl, b1⟩
         have B1 := Lib.hid b1
         clear b1))
    go_ret
    exact ⟨rfl, B1.out⟩
  by_cases hl4 : 200 < n4
  · have hl : (200 : Int) < (n4 : Int) := by omega
    have hn0' : ¬ (12 : Int) < (n0 : Int) := by omega
    have hn1' : ¬ (12 : Int) < (n1 : Int) := by omega
    clear hi0 hi1 ho h2 h3
    go_enter Try.func5, Try.ntmps5
    go_wp2_with (first
      | (go_at_call 11; refine (CB.out _).mono ?_; rintro e w1 ⟨rfl, b1⟩
         have B1 := Lib.hid b1
         clear b1))
    go_ret
    exact ⟨rfl, B1.out⟩
  have hl0' : ¬ (12 : Int) < (n0 : Int) := by omega
  have hl1' : ¬ (12 : Int) < (n1 : Int) := by omega
  have hl4' : ¬ (200 : Int) < (n4 : Int) := by omega
  have HN : Hid (n0 ≤ 12 ∧ n1 ≤ 12 ∧ n4 ≤ 200) := Lib.hid (by omega)
  have HC4 := Lib.hid hc4
  have H3 := Lib.hid h3
  have HKB : Hid (∀ W, Below w.heap.size w W → ∀ S : Nat → Prop, (∀ k, S k → w.heap.size ≤ k) → HasNo W S A4 n4 z4) := Lib.hid (fun W hb S hS => (HO.out.only (S := fun _ => False) (Only.of_below hb (Nat.le_refl _)) (Nat.le_refl _) (fun _ _ h => h)).outside hb.size (fun k hk hs => absurd (hS k hs) (by omega)))
  have CPT : Hid (∀ z W, z ∈ z0 → Calls Try.prog 12 #[.int .i64 z, .int .i64 20] W fun e w' => (∃ j : Nat, j < 20 ∧ e = .returned (.int .i64 (j : Int))) ∧ W = w') := Lib.hid (fun z W hz => place_any z 20 W (HI0.out.2.1 z hz) (by omega) (by omega))
  have CPH : Hid (∀ z W, z ∈ z1 → Calls Try.prog 12 #[.int .i64 z, .int .i64 50] W fun e w' => (∃ j : Nat, j < 50 ∧ e = .returned (.int .i64 (j : Int))) ∧ W = w') := Lib.hid (fun z W hz => place_any z 50 W (HI1.out.2.1 z hz) (by omega) (by omega))
  have CPA := Lib.hid (fun W => place_any a2 12 W h2 (by omega) (by omega))
  have CN : Hid (∀ W, Below w.heap.size w W → Calls Try.prog 13 #[.int .i64 64] W fun e W' => ∃ g, e = .returned (.pointer (some ⟨g, 0, none⟩)) ∧ OnD Z w W' g 64 (newM 64)) := Lib.hid (fun W hb => new_up Z w W hb 64 (by omega) (by omega))
  obtain ⟨q0, cal0⟩ := QP.new 64 (by omega) (by omega)
  have hpw : ∀ r, (fmtP (newM 64) 64 r).m.powers = 0 := fun r => fmtP_powers _ _ _
  obtain ⟨M0, hM0⟩ : ∃ M0, newM 64 = M0 := ⟨_, rfl⟩
  rw [hM0] at q0 cal0 CN hpw
  have hm0 : M0.wrote = 0 := by rw [← hM0]; rfl
  obtain ⟨P1, hP1⟩ : ∃ P1 : Nat → Pt, ∀ r, fmtP M0 64 r = P1 r := ⟨fun r => _, fun _ => rfl⟩
  have PW1 : Hid (∀ r, (P1 r).m.powers = 0) := Lib.hid (fun r => by rw [← hP1]; exact hpw r)
  have DS1 : Hid (∀ r : Nat, 8 ≤ r → r ≤ 37 → DS (P1 r) 64 65 1 r (fun _ => zsec)) := Lib.hid (fun r g1 g2 => by rw [← hP1]; exact DS.fmt q0 (by omega) r g1 (by omega) (by omega))
  have CF : Hid (∀ (r : Nat) gd W, 8 ≤ r → r ≤ 37 → OnD Z w W gd 64 M0 → Calls Try.prog 14 #[.pointer (some ⟨gd, 0, none⟩), .int .i64 (r : Int)] W fun en W' => (∃ e : Int, en = .returned (.int .i64 e)) ∧ OnD Z w W' gd 64 (P1 r).m) := Lib.hid (fun r gd W g1 g2 a => (format_up a r q0.ok (by rw [hm0]; omega) g1 (by omega) (by omega)).mono (by rintro en W' ⟨h, h'⟩; rw [hP1] at h'; exact ⟨⟨_, h⟩, h'⟩))
  clear hM0 hm0 hP1 q0 cal0 hi0 hi1 ho h2 h3 hpw hc4
  go_enter Try.func5, Try.ntmps5
  go_upto_region 7 with (first
    | (go_at_call 11; refine (CB.out _).mono ?_; rintro e w1 ⟨rfl, b1⟩
       have B1 := Lib.hid b1
       clear b1)
    | (go_at_call 13; refine (CN.out _ B1.out).mono ?_; rintro e w3 ⟨gd, rfl, a3'⟩
       have A3 := Lib.hid a3'
       clear a3')
    | (go_at_call 14; refine (CF.out 12 _ _ (by omega) (by omega) A3.out).mono ?_; rintro e w4 ⟨⟨ef, rfl⟩, a4'⟩
       have A4' := Lib.hid a4'
       have C4 := Lib.hid ((a4'.b).open_ (p := P1 12) (V := 65) (T := 1) (r := 12) (H := fun _ => zsec) (DS1.out 12 (by omega) (by omega)) (by omega))
       clear a4'))
  go_upto_region 10 with (first
    | (go_at_call 15; refine C4.out.mono ?_; rintro e w5 ⟨g, gp, p, j, rfl, a5, b5, pw5, _⟩
       have A5 := Lib.hid a5
       have B5 := Lib.hid b5
       have PW5 : Hid (p.m.powers = 0) := Lib.hid (pw5.trans (PW1.out 12))
       have HM := Lib.hid (homes_all a5 b5 (by omega) (fun q hq => hq.elim))
       clear a5 b5 pw5))
  clear C4 A4'
  go_upto_region 12 with (first
    | (go_at_call 16; refine HM.out.mono ?_; rintro e w6 ⟨A6, c6, rfl, o6, u6, _⟩
       have O6' := Lib.hid (o6.base A5.out.up.bel.size)
       have U6' := Lib.hid (u6.less (B' := fun k => (Value.slice A6 50 c6).ownBlock = some k) (fun k hk => .inr hk))
       clear o6 u6))
  clear HM
  obtain ⟨gw, rfl, hgw⟩ : ∃ gw, A6 = some ⟨gw, 0, none⟩ ∧ w.heap.size ≤ gw := by
    obtain ⟨gn, e, h1, _⟩ := O6'.out.at_ (by decide)
    exact ⟨gn, e, h1⟩
  have U6 : Hid (UpB Z w w6 g gd gp 64 p j (fun q => q = gw)) := Lib.hid (U6'.out.less (fun k hk => by subst hk; rfl))
  have O6 : Hid (OwnV 9 w6 w.heap.size (.slice (some ⟨gw, 0, none⟩) 50 c6) (strs (hsL (fun _ => zsec) 50))) := O6'
  clear U6' O6' hgw
  go_wp2_with fail
  go_loopw [14, 15, 16] (fun v14 v15 i wr => ∃ (k T u gw cw : Nat) (p : Pt) (j : JM) (H : Nat → List UInt8), k ≤ n0 ∧ k ≤ n1 ∧ i = .int .i64 (k : Int) ∧ v14 = .slice (some ⟨gw, 0, none⟩) 50 cw ∧ v15 = .slice (some ⟨gw, 0, none⟩) 50 cw ∧ UpB Z w wr g gd gp 64 p j (fun q => q = gw) ∧ SA p 64 (300 + 107 * k) j T u 12 H ∧ p.m.powers = 0 ∧ OwnV 9 wr w.heap.size (.slice (some ⟨gw, 0, none⟩) 50 cw) (strs (hsL H 50))) (fun _ _ i _ => n0 - (Go.RowKit.intOf i).toNat)
  case atStart => exact ⟨0, 1, 0, gw, c6, p, j, _, Nat.zero_le _, Nat.zero_le _, rfl, rfl, rfl, U6.out, (B5.out.more (by omega)).sa, PW5.out, O6.out⟩
  case round =>
    clear U6 O6 B5 PW5
    obtain ⟨k, T, u, gw, cw, p, j, H, hk0, hk1, rfl, rfl, rfl, qu, qs, qp, qo⟩ := hrel
    obtain ⟨W1, rfl⟩ : ∃ W, W = wr := ⟨_, rfl⟩
    have QU := Lib.hid qu
    have QS := Lib.hid qs
    have QP' := Lib.hid qp
    have QO := Lib.hid qo
    have hgw1 : gw < W1.heap.size := (qu.lt gw rfl).2
    have HGW := Lib.hid hgw1
    have hk12 : k ≤ 12 := by have := HN.out.1; omega
    clear qu qs qp qo hgw1
    by_cases hlt0 : k < n0
    · by_cases hlt1 : k < n1
      · obtain ⟨g0, o0, rfl, hg0, hcl0⟩ := HI0.out.2.2 (by omega)
        obtain ⟨z, hz⟩ : ∃ z, z0[k]? = some z := ⟨_, List.getElem?_eq_getElem (by rw [← L0.out]; exact hlt0)⟩
        have k0 : W1.cell? ⟨g0, o0 + k, none⟩ = some (.int .i64 z) := (QU.out.up.bel.cell hg0).trans (hcl0 k z hz)
        have HZM := Lib.hid (List.mem_of_getElem? hz)
        obtain ⟨g1, o1, rfl, hg1, hcl1⟩ := HI1.out.2.2 (by omega)
        obtain ⟨y, hy⟩ : ∃ y, z1[k]? = some y := ⟨_, List.getElem?_eq_getElem (by rw [← L1.out]; exact hlt1)⟩
        have k1 : W1.cell? ⟨g1, o1 + k, none⟩ = some (.int .i64 y) := (QU.out.up.bel.cell hg1).trans (hcl1 k y hy)
        have HYM := Lib.hid (List.mem_of_getElem? hy)
        clear hcl0 hcl1 hz hy
        go_upto_region 17 with (first
          | (go_at_call_of 12 (Value.int .i64 20); refine (CPT.out z _ HZM.out).mono ?_; rintro e w7 ⟨⟨t0, ht0, rfl⟩, rfl⟩)
          | (go_at_call_of 12 (Value.int .i64 50); refine (CPH.out y _ HYM.out).mono ?_; rintro e w7 ⟨⟨at1, hat1, rfl⟩, rfl⟩))
        go_upto_region 18 with (first
          | (go_at_call 27; refine (lheader_any _ (at1 : Int) (by omega) (by omega)).mono ?_; rintro e w8 ⟨g5, rfl, r5, b8⟩
             have R5 := Lib.hid r5
             have U8 : Hid (UpB Z w w8 g gd gp 64 p j (fun q => q = gw ∨ q = g5)) := Lib.hid (QU.out.own (Only.of_below b8 (Nat.le_refl _)) (fun q hq => hq.elim .inl (fun h => .inr (by obtain ⟨_, _, _, h1, h2⟩ := r5.has; subst h; exact ⟨h1, h2⟩))))
             have O8 := Lib.hid (QO.out.below b8)
             have B8 := Lib.hid b8
             clear r5 b8))
        clear k0 k1 ht0
        have SOK := (QS.out.facts (by omega)).2.2.2.2.2.2.2.2.2.2.2.1
        go_upto_region 20 with (first
          | (go_at_call 12; refine (CPA.out _).mono ?_; rintro e w9 ⟨⟨j2, hj2, rfl⟩, rfl⟩)
          | (go_at_call 17; refine (U8.out.arm SOK (j2 : Int) a3 (by omega) H3.out).mono ?_; rintro e w10 ⟨rfl, u10, y10⟩
             have U10 := Lib.hid u10
             have O10 := Lib.hid (O8.out.only y10 (fun b hb hn => hn (.inl (ownB1 hb))))
             have R10 := Lib.hid (R5.out.only y10 (fun hn => hn (.inr rfl)))
             have SA10 := Lib.hid (QS.out.arm (j2 : Int) a3 (by omega))
             clear u10 y10))
        · obtain ⟨d, ld, hb5, _, _⟩ := R10.out.has
          have HB5 := Lib.hid hb5
          have SS := SA10
          have ff := SS.out.facts (by omega)
          have hb' : Below w10.heap.size w10 (w10.alloc (.cells #[.int .i64 (at1 : Int), .slice (some ⟨g5, 0, none⟩) 512 512, .int .i64 (((at1 + 1) % 50 : Nat) : Int), .slice (some ⟨g5, 0, none⟩) 512 512] 46)) := (Below.refl _ _).alloc (Nat.le_refl _) _
          have CM := (U10.out.below hb').commit6 ff.2.2.2.2.2.2.2.2.2.2.2.1 (by have := ff.2.2.2.2.2.2.2.2.2.2.2.2.1; omega) _ 2 2 (foL at1 d) (HasPu.two (c := 512) (at1 : Int) (((at1 + 1) % 50 : Nat) : Int) HB5.out (Nat.le_refl _) (by omega) (by omega)) (by omega) (foL_len ld) (by rw [ff.2.2.2.1, ff.2.1]; exact ff.2.2.2.2.2.2.1)
          have O20 := Lib.hid (O10.out.below hb')
          have HB20 := Lib.hid (HB5.out.on hb')
          rw [show (((at1 + 1) % 50 : Nat) : Int) = ((at1 : Int) + 1) % 50 by push_cast; rfl] at CM
          have CMH := Lib.hid CM
          have TWO := Lib.hid (SS.out.two (i := at1) (d := d) (by omega) hat1 ld)
          clear hb5 ff CM
          go_upto_region 22 with (first
            | (go_at_call 21; refine CMH.out.mono ?_; rintro e w11 ⟨rfl, u11, y11⟩
               have U11 := Lib.hid u11
               have O11 := Lib.hid (O20.out.only y11 (fun b hb hn => hn (.inl (ownB1 hb))))
               have HB11 := Lib.hid (HB20.out.far y11 (fun x hx hh => hh (.inr (by injection hx with hx; rw [← hx]))))
               have b11' : Below w11.heap.size w11 (w11.alloc (.cells #[] 9)) := (Below.refl _ _).alloc (Nat.le_refl _) _
               have OE := Lib.hid (ownV_empty w11 w.heap.size u11.up.bel.size)
               have HC := Lib.hid (OwnV.src (O11.out.below b11'))
               have BS : Hid (w.heap.size ≤ (w11.alloc (.cells #[] 9)).heap.size) := Lib.hid (Nat.le_trans u11.up.bel.size b11'.size)
               clear u11 y11 b11')
            | (at_builtin; refine wp_appV rfl (.tmp 111) (.tmp 112) 33 9 _ 16 rfl Try.underlying33 infoStr rfl w.heap.size _ [] (strs (hsL H 50)) rfl OE.out ⟨gw, 0, none⟩ 50 cw rfl (by simp [strs, hsL_len]) HC.out (strs_ones _) (by simp) BS.out ?_
               intro A12 n12 c12 w12 o12 gr12 b12 ob12
               have O12 := Lib.hid o12
               have GR12 := Lib.hid (Only.grownO gr12)
               have OB12 := Lib.hid ob12
               clear o12 gr12 b12 ob12))
          obtain ⟨i2, hi2⟩ : ∃ i2, (at1 + 1) % 50 = i2 := ⟨_, rfl⟩
          have hi50 : i2 < 50 := by rw [← hi2]; exact Nat.mod_lt _ (by decide)
          have FF := Lib.hid (frow O12.out)
          obtain ⟨g12, rfl, rfl, h12⟩ := FF.out
          obtain ⟨v1, cv1, fv1⟩ := h12 at1 hat1
          obtain ⟨v2, cv2, fv2⟩ := h12 i2 hi50
          have hb12 := fo_has U11.out HB11.out GR12.out
          have hcv : (convert 39 9 (.slice (some ⟨g5, 0, none⟩) 512 512)).run Try.prog w12 = .ok (.string (strB d)) w12 := run_conv Try.underlying39 Try.underlying5 Try.underlying9 _ _ _ 512 _ hb12
          have hcv2 : (convert 39 9 (.slice (some ⟨g5, 0, none⟩) 512 512)).run Try.prog w12.drew = .ok (.string (strB d)) w12.drew := run_conv Try.underlying39 Try.underlying5 Try.underlying9 w12.heap.size _ _ 512 _ hb12
          have CV := Lib.hid hcv
          have CV2 := Lib.hid hcv2
          have e1 : IntKind.i64.wrap ((at1 : Int) + 1) = (at1 : Int) + 1 := IntWalk.i64_in _ (by omega)
          have e2 : ((at1 : Int) + 1).tmod 50 = (i2 : Int) := by rw [Int.tmod_eq_emod_of_nonneg (by omega), ← hi2]; push_cast; rfl
          clear h12 FF
          go_region
          have PK := Lib.hid (fo_pkg (d := d) U11.out O11.out GR12.out OB12.out O12.out hat1 hi2)
          have PWX : Hid ((cmt (⟨p.m.armM (j2 : Int) a3, p.e⟩ : Pt) 64 j (foL at1 d)).p.m.powers = 0) := Lib.hid ((cmt_powers ..).trans QP'.out)
          rcases TWO.out with ⟨e0, u', sa⟩ | ⟨e8, af⟩
          · rw [e0]
            have SAN := Lib.hid sa
            clear sa e0 TWO
            go_wp2_with fail
            go_roundw
            case rel => exact ⟨k + 1, T + 1, u', g12, c12, _, _, foH H at1 d, by omega, by omega, (by first | go_num | (congr 1; omega) | (congr 2; omega)), rfl, rfl, PK.out.1.less (fun q hq => .inr hq), (by have := SAN.out; rwa [show 300 + 107 * k + 107 = 300 + 107 * (k + 1) by omega] at this), PWX.out, PK.out.2.2⟩
            case measure => simp [Go.RowKit.intOf]; omega
          · rw [e8]
            have AF := Lib.hid af
            clear af e8 TWO
            have CPW := Lib.hid (PK.out.1.disk.powerA AF.out (by rw [PWX.out]; decide) A4 n4 c4 z4 (fun S hS _ => HKB.out _ PK.out.1.up.bel S hS) HC4.out (by have := HN.out; omega))
            go_upto_region 26 with (first
              | (go_at_call 22; refine CPW.out.mono ?_; rintro e w30 ⟨rfl, ⟨m', f', b30, q30, cm30, r30, _⟩, y30⟩
                 have B30 := Lib.hid b30
                 have Q30 := Lib.hid q30
                 have CM30 := Lib.hid cm30
                 have RR := Lib.hid r30
                 have OA30 := Lib.hid (PK.out.2.1.only y30 (fun b hb hn => hn (.inl (ownB1 hb))))
                 have OB30 := Lib.hid (PK.out.2.2.only y30 (fun b hb hn => hn (.inr (ownB1 hb))))
                 clear b30 q30 cm30 r30 y30))
            rcases RR.out with RS | RS
            · have CO := Lib.hid (B30.out.open_ (p := ⟨m', 0⟩) (RS.ds Q30.out CM30.out) (by omega))
              go_upto_region 29 with (first
                | (go_at_call 15; refine CO.out.mono ?_; rintro e w31 ⟨g', gp', p', j', rfl, u31, s31, _, _, y31⟩
                   have OA31 := Lib.hid (OA30.out.only y31 (fun b hb hn => hn (.inl (ownB1 hb))))
                   have OB31 := Lib.hid (OB30.out.only y31 (fun b hb hn => hn (.inr (ownB1 hb))))
                   have HM31 := Lib.hid (homes_all u31 s31 (by omega) (fun k hk => (u31.lt k hk).2))
                   clear u31 s31 y31))
              go_wp2_with (first
                | (go_at_call 16; refine HM31.out.mono ?_; rintro e w32 ⟨A32, c32, rfl, o32, u32, y32⟩
                   have OA32 := Lib.hid (OA31.out.only y32 (fun b hb hn => hn (.inl (ownB1 hb))))
                   have OB32 := Lib.hid (OB31.out.only y32 (fun b hb hn => hn (.inr (ownB1 hb))))
                   have BL32 := Lib.hid u32.up.bel
                   have AL32 := Lib.hid (alike_s (c := c32) (d := cw) o32.hasS OA32.out.hasS (by omega) true (decide_eq_true rfl))
                   clear o32 u32 y32)
                | (go_at_call 23; refine AL32.out.mono ?_; rintro e w33 ⟨rfl, b33, _⟩
                   have BL33 := Lib.hid (BL32.out.trans (b33.mono BL32.out.size))
                   clear b33))
              go_ret
              exact ⟨rfl, BL33.out⟩
            · by_cases hq : hsL (foH H at1 d) 50 = hsL H 50
              · have CO := Lib.hid (B30.out.open_ (p := ⟨m', 0⟩) (RS.ds Q30.out CM30.out) (by omega))
                go_upto_region 29 with (first
                  | (go_at_call 15; refine CO.out.mono ?_; rintro e w31 ⟨g', gp', p', j', rfl, u31, s31, _, _, y31⟩
                     have OA31 := Lib.hid (OA30.out.only y31 (fun b hb hn => hn (.inl (ownB1 hb))))
                     have OB31 := Lib.hid (OB30.out.only y31 (fun b hb hn => hn (.inr (ownB1 hb))))
                     have HM31 := Lib.hid (homes_all u31 s31 (by omega) (fun k hk => (u31.lt k hk).2))
                     clear u31 s31 y31))
                go_wp2_with (first
                  | (go_at_call 16; refine HM31.out.mono ?_; rintro e w32 ⟨A32, c32, rfl, o32, u32, y32⟩
                     have OA32 := Lib.hid (OA31.out.only y32 (fun b hb hn => hn (.inl (ownB1 hb))))
                     have OB32 := Lib.hid (OB31.out.only y32 (fun b hb hn => hn (.inr (ownB1 hb))))
                     have BL32 := Lib.hid u32.up.bel
                     have AL32 := Lib.hid (alike_s (c := c32) (d := cw) o32.hasS OA32.out.hasS (by omega) true (decide_eq_true hq))
                     clear o32 u32 y32)
                  | (go_at_call 23; refine AL32.out.mono ?_; rintro e w33 ⟨rfl, b33, _⟩
                     have BL33 := Lib.hid (BL32.out.trans (b33.mono BL32.out.size))
                     clear b33))
                go_ret
                exact ⟨rfl, BL33.out⟩
              · have CO := Lib.hid (B30.out.open_ (p := ⟨m', 0⟩) (RS.ds Q30.out CM30.out) (by omega))
                go_upto_region 29 with (first
                  | (go_at_call 15; refine CO.out.mono ?_; rintro e w31 ⟨g', gp', p', j', rfl, u31, s31, _, _, y31⟩
                     have OA31 := Lib.hid (OA30.out.only y31 (fun b hb hn => hn (.inl (ownB1 hb))))
                     have OB31 := Lib.hid (OB30.out.only y31 (fun b hb hn => hn (.inr (ownB1 hb))))
                     have HM31 := Lib.hid (homes_all u31 s31 (by omega) (fun k hk => (u31.lt k hk).2))
                     clear u31 s31 y31))
                go_wp2_with (first
                  | (go_at_call 16; refine HM31.out.mono ?_; rintro e w32 ⟨A32, c32, rfl, o32, u32, y32⟩
                     have OA32 := Lib.hid (OA31.out.only y32 (fun b hb hn => hn (.inl (ownB1 hb))))
                     have OB32 := Lib.hid (OB31.out.only y32 (fun b hb hn => hn (.inr (ownB1 hb))))
                     have BL32 := Lib.hid u32.up.bel
                     have AL32 := Lib.hid (alike_s (c := c32) (d := cw) o32.hasS OA32.out.hasS (by omega) false (decide_eq_false hq))
                     have HS32 := Lib.hid o32
                     clear o32 u32 y32)
                  | (go_at_call_of 23 (Value.slice (some ⟨gw, 0, none⟩) 50 cw); refine AL32.out.mono ?_; rintro e w33 ⟨rfl, b33, y33⟩
                     have BL33 := Lib.hid (BL32.out.trans (b33.mono BL32.out.size))
                     have AL33 := Lib.hid (alike_s (c := c32) (d := c12) (HS32.out.below b33).hasS (OB32.out.only y33 (fun _ _ h => h)).hasS (by omega) true (decide_eq_true rfl))
                     clear b33 y33)
                  | (go_at_call_of 23 (Value.slice (some ⟨g12, 0, none⟩) 50 c12); refine AL33.out.mono ?_; rintro e w34 ⟨rfl, b34, _⟩
                     have BL34 := Lib.hid (BL33.out.trans (b34.mono BL33.out.size))
                     clear b34))
                go_ret
                exact ⟨rfl, BL34.out⟩
        · obtain ⟨d, ld, hb5, _, _⟩ := R10.out.has
          have HB5 := Lib.hid hb5
          have SS := SA10
          have ff := SS.out.facts (by omega)
          have hb' : Below w10.heap.size w10 (w10.alloc (.cells #[.int .i64 (at1 : Int), .slice (some ⟨g5, 0, none⟩) 512 512, .int .i64 (((at1 + 1) % 50 : Nat) : Int), .slice (some ⟨g5, 0, none⟩) 512 512] 46)) := (Below.refl _ _).alloc (Nat.le_refl _) _
          have CM := (U10.out.below hb').commit6 ff.2.2.2.2.2.2.2.2.2.2.2.1 (by have := ff.2.2.2.2.2.2.2.2.2.2.2.2.1; omega) _ 2 2 (foL at1 d) (HasPu.two (c := 512) (at1 : Int) (((at1 + 1) % 50 : Nat) : Int) HB5.out (Nat.le_refl _) (by omega) (by omega)) (by omega) (foL_len ld) (by rw [ff.2.2.2.1, ff.2.1]; exact ff.2.2.2.2.2.2.1)
          have O20 := Lib.hid (O10.out.below hb')
          have HB20 := Lib.hid (HB5.out.on hb')
          rw [show (((at1 + 1) % 50 : Nat) : Int) = ((at1 : Int) + 1) % 50 by push_cast; rfl] at CM
          have CMH := Lib.hid CM
          have TWO := Lib.hid (SS.out.two (i := at1) (d := d) (by omega) hat1 ld)
          clear hb5 ff CM
          go_upto_region 22 with (first
            | (go_at_call 21; refine CMH.out.mono ?_; rintro e w11 ⟨rfl, u11, y11⟩
               have U11 := Lib.hid u11
               have O11 := Lib.hid (O20.out.only y11 (fun b hb hn => hn (.inl (ownB1 hb))))
               have HB11 := Lib.hid (HB20.out.far y11 (fun x hx hh => hh (.inr (by injection hx with hx; rw [← hx]))))
               have b11' : Below w11.heap.size w11 (w11.alloc (.cells #[] 9)) := (Below.refl _ _).alloc (Nat.le_refl _) _
               have OE := Lib.hid (ownV_empty w11 w.heap.size u11.up.bel.size)
               have HC := Lib.hid (OwnV.src (O11.out.below b11'))
               have BS : Hid (w.heap.size ≤ (w11.alloc (.cells #[] 9)).heap.size) := Lib.hid (Nat.le_trans u11.up.bel.size b11'.size)
               clear u11 y11 b11')
            | (at_builtin; refine wp_appV rfl (.tmp 111) (.tmp 112) 33 9 _ 16 rfl Try.underlying33 infoStr rfl w.heap.size _ [] (strs (hsL H 50)) rfl OE.out ⟨gw, 0, none⟩ 50 cw rfl (by simp [strs, hsL_len]) HC.out (strs_ones _) (by simp) BS.out ?_
               intro A12 n12 c12 w12 o12 gr12 b12 ob12
               have O12 := Lib.hid o12
               have GR12 := Lib.hid (Only.grownO gr12)
               have OB12 := Lib.hid ob12
               clear o12 gr12 b12 ob12))
          obtain ⟨i2, hi2⟩ : ∃ i2, (at1 + 1) % 50 = i2 := ⟨_, rfl⟩
          have hi50 : i2 < 50 := by rw [← hi2]; exact Nat.mod_lt _ (by decide)
          have FF := Lib.hid (frow O12.out)
          obtain ⟨g12, rfl, rfl, h12⟩ := FF.out
          obtain ⟨v1, cv1, fv1⟩ := h12 at1 hat1
          obtain ⟨v2, cv2, fv2⟩ := h12 i2 hi50
          have hb12 := fo_has U11.out HB11.out GR12.out
          have hcv : (convert 39 9 (.slice (some ⟨g5, 0, none⟩) 512 512)).run Try.prog w12 = .ok (.string (strB d)) w12 := run_conv Try.underlying39 Try.underlying5 Try.underlying9 _ _ _ 512 _ hb12
          have hcv2 : (convert 39 9 (.slice (some ⟨g5, 0, none⟩) 512 512)).run Try.prog w12.drew = .ok (.string (strB d)) w12.drew := run_conv Try.underlying39 Try.underlying5 Try.underlying9 w12.heap.size _ _ 512 _ hb12
          have CV := Lib.hid hcv
          have CV2 := Lib.hid hcv2
          have e1 : IntKind.i64.wrap ((at1 : Int) + 1) = (at1 : Int) + 1 := IntWalk.i64_in _ (by omega)
          have e2 : ((at1 : Int) + 1).tmod 50 = (i2 : Int) := by rw [Int.tmod_eq_emod_of_nonneg (by omega), ← hi2]; push_cast; rfl
          clear h12 FF
          go_region
          have PK := Lib.hid (fo_pkg (d := d) U11.out O11.out GR12.out OB12.out O12.out hat1 hi2)
          have PWX : Hid ((cmt (⟨p.m.armM (j2 : Int) a3, p.e⟩ : Pt) 64 j (foL at1 d)).p.m.powers = 0) := Lib.hid ((cmt_powers ..).trans QP'.out)
          rcases TWO.out with ⟨e0, u', sa⟩ | ⟨e8, af⟩
          · rw [e0]
            have SAN := Lib.hid sa
            clear sa e0 TWO
            go_wp2_with fail
            go_roundw
            case rel => exact ⟨k + 1, T + 1, u', g12, c12, _, _, foH H at1 d, by omega, by omega, (by first | go_num | (congr 1; omega) | (congr 2; omega)), rfl, rfl, PK.out.1.less (fun q hq => .inr hq), (by have := SAN.out; rwa [show 300 + 107 * k + 107 = 300 + 107 * (k + 1) by omega] at this), PWX.out, PK.out.2.2⟩
            case measure => simp [Go.RowKit.intOf]; omega
          · rw [e8]
            have AF := Lib.hid af
            clear af e8 TWO
            have CPW := Lib.hid (PK.out.1.disk.powerA AF.out (by rw [PWX.out]; decide) A4 n4 c4 z4 (fun S hS _ => HKB.out _ PK.out.1.up.bel S hS) HC4.out (by have := HN.out; omega))
            go_upto_region 26 with (first
              | (go_at_call 22; refine CPW.out.mono ?_; rintro e w30 ⟨rfl, ⟨m', f', b30, q30, cm30, r30, _⟩, y30⟩
                 have B30 := Lib.hid b30
                 have Q30 := Lib.hid q30
                 have CM30 := Lib.hid cm30
                 have RR := Lib.hid r30
                 have OA30 := Lib.hid (PK.out.2.1.only y30 (fun b hb hn => hn (.inl (ownB1 hb))))
                 have OB30 := Lib.hid (PK.out.2.2.only y30 (fun b hb hn => hn (.inr (ownB1 hb))))
                 clear b30 q30 cm30 r30 y30))
            rcases RR.out with RS | RS
            · have CO := Lib.hid (B30.out.open_ (p := ⟨m', 0⟩) (RS.ds Q30.out CM30.out) (by omega))
              go_upto_region 29 with (first
                | (go_at_call 15; refine CO.out.mono ?_; rintro e w31 ⟨g', gp', p', j', rfl, u31, s31, _, _, y31⟩
                   have OA31 := Lib.hid (OA30.out.only y31 (fun b hb hn => hn (.inl (ownB1 hb))))
                   have OB31 := Lib.hid (OB30.out.only y31 (fun b hb hn => hn (.inr (ownB1 hb))))
                   have HM31 := Lib.hid (homes_all u31 s31 (by omega) (fun k hk => (u31.lt k hk).2))
                   clear u31 s31 y31))
              go_wp2_with (first
                | (go_at_call 16; refine HM31.out.mono ?_; rintro e w32 ⟨A32, c32, rfl, o32, u32, y32⟩
                   have OA32 := Lib.hid (OA31.out.only y32 (fun b hb hn => hn (.inl (ownB1 hb))))
                   have OB32 := Lib.hid (OB31.out.only y32 (fun b hb hn => hn (.inr (ownB1 hb))))
                   have BL32 := Lib.hid u32.up.bel
                   have AL32 := Lib.hid (alike_s (c := c32) (d := cw) o32.hasS OA32.out.hasS (by omega) true (decide_eq_true rfl))
                   clear o32 u32 y32)
                | (go_at_call 23; refine AL32.out.mono ?_; rintro e w33 ⟨rfl, b33, _⟩
                   have BL33 := Lib.hid (BL32.out.trans (b33.mono BL32.out.size))
                   clear b33))
              go_ret
              exact ⟨rfl, BL33.out⟩
            · by_cases hq : hsL (foH H at1 d) 50 = hsL H 50
              · have CO := Lib.hid (B30.out.open_ (p := ⟨m', 0⟩) (RS.ds Q30.out CM30.out) (by omega))
                go_upto_region 29 with (first
                  | (go_at_call 15; refine CO.out.mono ?_; rintro e w31 ⟨g', gp', p', j', rfl, u31, s31, _, _, y31⟩
                     have OA31 := Lib.hid (OA30.out.only y31 (fun b hb hn => hn (.inl (ownB1 hb))))
                     have OB31 := Lib.hid (OB30.out.only y31 (fun b hb hn => hn (.inr (ownB1 hb))))
                     have HM31 := Lib.hid (homes_all u31 s31 (by omega) (fun k hk => (u31.lt k hk).2))
                     clear u31 s31 y31))
                go_wp2_with (first
                  | (go_at_call 16; refine HM31.out.mono ?_; rintro e w32 ⟨A32, c32, rfl, o32, u32, y32⟩
                     have OA32 := Lib.hid (OA31.out.only y32 (fun b hb hn => hn (.inl (ownB1 hb))))
                     have OB32 := Lib.hid (OB31.out.only y32 (fun b hb hn => hn (.inr (ownB1 hb))))
                     have BL32 := Lib.hid u32.up.bel
                     have AL32 := Lib.hid (alike_s (c := c32) (d := cw) o32.hasS OA32.out.hasS (by omega) true (decide_eq_true hq))
                     clear o32 u32 y32)
                  | (go_at_call 23; refine AL32.out.mono ?_; rintro e w33 ⟨rfl, b33, _⟩
                     have BL33 := Lib.hid (BL32.out.trans (b33.mono BL32.out.size))
                     clear b33))
                go_ret
                exact ⟨rfl, BL33.out⟩
              · have CO := Lib.hid (B30.out.open_ (p := ⟨m', 0⟩) (RS.ds Q30.out CM30.out) (by omega))
                go_upto_region 29 with (first
                  | (go_at_call 15; refine CO.out.mono ?_; rintro e w31 ⟨g', gp', p', j', rfl, u31, s31, _, _, y31⟩
                     have OA31 := Lib.hid (OA30.out.only y31 (fun b hb hn => hn (.inl (ownB1 hb))))
                     have OB31 := Lib.hid (OB30.out.only y31 (fun b hb hn => hn (.inr (ownB1 hb))))
                     have HM31 := Lib.hid (homes_all u31 s31 (by omega) (fun k hk => (u31.lt k hk).2))
                     clear u31 s31 y31))
                go_wp2_with (first
                  | (go_at_call 16; refine HM31.out.mono ?_; rintro e w32 ⟨A32, c32, rfl, o32, u32, y32⟩
                     have OA32 := Lib.hid (OA31.out.only y32 (fun b hb hn => hn (.inl (ownB1 hb))))
                     have OB32 := Lib.hid (OB31.out.only y32 (fun b hb hn => hn (.inr (ownB1 hb))))
                     have BL32 := Lib.hid u32.up.bel
                     have AL32 := Lib.hid (alike_s (c := c32) (d := cw) o32.hasS OA32.out.hasS (by omega) false (decide_eq_false hq))
                     have HS32 := Lib.hid o32
                     clear o32 u32 y32)
                  | (go_at_call_of 23 (Value.slice (some ⟨gw, 0, none⟩) 50 cw); refine AL32.out.mono ?_; rintro e w33 ⟨rfl, b33, y33⟩
                     have BL33 := Lib.hid (BL32.out.trans (b33.mono BL32.out.size))
                     have AL33 := Lib.hid (alike_s (c := c32) (d := c12) (HS32.out.below b33).hasS (OB32.out.only y33 (fun _ _ h => h)).hasS (by omega) true (decide_eq_true rfl))
                     clear b33 y33)
                  | (go_at_call_of 23 (Value.slice (some ⟨g12, 0, none⟩) 50 c12); refine AL33.out.mono ?_; rintro e w34 ⟨rfl, b34, _⟩
                     have BL34 := Lib.hid (BL33.out.trans (b34.mono BL33.out.size))
                     clear b34))
                go_ret
                exact ⟨rfl, BL34.out⟩
        · obtain ⟨d, ld, hb5, _, _⟩ := R5.out.has
          have HB5 := Lib.hid hb5
          have SS := QS
          have ff := SS.out.facts (by omega)
          have hb' : Below w8.heap.size w8 (w8.alloc (.cells #[.int .i64 (at1 : Int), .slice (some ⟨g5, 0, none⟩) 512 512, .int .i64 (((at1 + 1) % 50 : Nat) : Int), .slice (some ⟨g5, 0, none⟩) 512 512] 46)) := (Below.refl _ _).alloc (Nat.le_refl _) _
          have CM := (U8.out.below hb').commit6 ff.2.2.2.2.2.2.2.2.2.2.2.1 (by have := ff.2.2.2.2.2.2.2.2.2.2.2.2.1; omega) _ 2 2 (foL at1 d) (HasPu.two (c := 512) (at1 : Int) (((at1 + 1) % 50 : Nat) : Int) HB5.out (Nat.le_refl _) (by omega) (by omega)) (by omega) (foL_len ld) (by rw [ff.2.2.2.1, ff.2.1]; exact ff.2.2.2.2.2.2.1)
          have O20 := Lib.hid (O8.out.below hb')
          have HB20 := Lib.hid (HB5.out.on hb')
          rw [show (((at1 + 1) % 50 : Nat) : Int) = ((at1 : Int) + 1) % 50 by push_cast; rfl] at CM
          have CMH := Lib.hid CM
          have TWO := Lib.hid (SS.out.two (i := at1) (d := d) (by omega) hat1 ld)
          clear hb5 ff CM
          go_upto_region 22 with (first
            | (go_at_call 21; refine CMH.out.mono ?_; rintro e w11 ⟨rfl, u11, y11⟩
               have U11 := Lib.hid u11
               have O11 := Lib.hid (O20.out.only y11 (fun b hb hn => hn (.inl (ownB1 hb))))
               have HB11 := Lib.hid (HB20.out.far y11 (fun x hx hh => hh (.inr (by injection hx with hx; rw [← hx]))))
               have b11' : Below w11.heap.size w11 (w11.alloc (.cells #[] 9)) := (Below.refl _ _).alloc (Nat.le_refl _) _
               have OE := Lib.hid (ownV_empty w11 w.heap.size u11.up.bel.size)
               have HC := Lib.hid (OwnV.src (O11.out.below b11'))
               have BS : Hid (w.heap.size ≤ (w11.alloc (.cells #[] 9)).heap.size) := Lib.hid (Nat.le_trans u11.up.bel.size b11'.size)
               clear u11 y11 b11')
            | (at_builtin; refine wp_appV rfl (.tmp 111) (.tmp 112) 33 9 _ 16 rfl Try.underlying33 infoStr rfl w.heap.size _ [] (strs (hsL H 50)) rfl OE.out ⟨gw, 0, none⟩ 50 cw rfl (by simp [strs, hsL_len]) HC.out (strs_ones _) (by simp) BS.out ?_
               intro A12 n12 c12 w12 o12 gr12 b12 ob12
               have O12 := Lib.hid o12
               have GR12 := Lib.hid (Only.grownO gr12)
               have OB12 := Lib.hid ob12
               clear o12 gr12 b12 ob12))
          obtain ⟨i2, hi2⟩ : ∃ i2, (at1 + 1) % 50 = i2 := ⟨_, rfl⟩
          have hi50 : i2 < 50 := by rw [← hi2]; exact Nat.mod_lt _ (by decide)
          have FF := Lib.hid (frow O12.out)
          obtain ⟨g12, rfl, rfl, h12⟩ := FF.out
          obtain ⟨v1, cv1, fv1⟩ := h12 at1 hat1
          obtain ⟨v2, cv2, fv2⟩ := h12 i2 hi50
          have hb12 := fo_has U11.out HB11.out GR12.out
          have hcv : (convert 39 9 (.slice (some ⟨g5, 0, none⟩) 512 512)).run Try.prog w12 = .ok (.string (strB d)) w12 := run_conv Try.underlying39 Try.underlying5 Try.underlying9 _ _ _ 512 _ hb12
          have hcv2 : (convert 39 9 (.slice (some ⟨g5, 0, none⟩) 512 512)).run Try.prog w12.drew = .ok (.string (strB d)) w12.drew := run_conv Try.underlying39 Try.underlying5 Try.underlying9 w12.heap.size _ _ 512 _ hb12
          have CV := Lib.hid hcv
          have CV2 := Lib.hid hcv2
          have e1 : IntKind.i64.wrap ((at1 : Int) + 1) = (at1 : Int) + 1 := IntWalk.i64_in _ (by omega)
          have e2 : ((at1 : Int) + 1).tmod 50 = (i2 : Int) := by rw [Int.tmod_eq_emod_of_nonneg (by omega), ← hi2]; push_cast; rfl
          clear h12 FF
          go_region
          have PK := Lib.hid (fo_pkg (d := d) U11.out O11.out GR12.out OB12.out O12.out hat1 hi2)
          have PWX : Hid ((cmt p 64 j (foL at1 d)).p.m.powers = 0) := Lib.hid ((cmt_powers ..).trans QP'.out)
          rcases TWO.out with ⟨e0, u', sa⟩ | ⟨e8, af⟩
          · rw [e0]
            have SAN := Lib.hid sa
            clear sa e0 TWO
            go_wp2_with fail
            go_roundw
            case rel => exact ⟨k + 1, T + 1, u', g12, c12, _, _, foH H at1 d, by omega, by omega, (by first | go_num | (congr 1; omega) | (congr 2; omega)), rfl, rfl, PK.out.1.less (fun q hq => .inr hq), (by have := SAN.out; rwa [show 300 + 107 * k + 107 = 300 + 107 * (k + 1) by omega] at this), PWX.out, PK.out.2.2⟩
            case measure => simp [Go.RowKit.intOf]; omega
          · rw [e8]
            have AF := Lib.hid af
            clear af e8 TWO
            have CPW := Lib.hid (PK.out.1.disk.powerA AF.out (by rw [PWX.out]; decide) A4 n4 c4 z4 (fun S hS _ => HKB.out _ PK.out.1.up.bel S hS) HC4.out (by have := HN.out; omega))
            go_upto_region 26 with (first
              | (go_at_call 22; refine CPW.out.mono ?_; rintro e w30 ⟨rfl, ⟨m', f', b30, q30, cm30, r30, _⟩, y30⟩
                 have B30 := Lib.hid b30
                 have Q30 := Lib.hid q30
                 have CM30 := Lib.hid cm30
                 have RR := Lib.hid r30
                 have OA30 := Lib.hid (PK.out.2.1.only y30 (fun b hb hn => hn (.inl (ownB1 hb))))
                 have OB30 := Lib.hid (PK.out.2.2.only y30 (fun b hb hn => hn (.inr (ownB1 hb))))
                 clear b30 q30 cm30 r30 y30))
            rcases RR.out with RS | RS
            · have CO := Lib.hid (B30.out.open_ (p := ⟨m', 0⟩) (RS.ds Q30.out CM30.out) (by omega))
              go_upto_region 29 with (first
                | (go_at_call 15; refine CO.out.mono ?_; rintro e w31 ⟨g', gp', p', j', rfl, u31, s31, _, _, y31⟩
                   have OA31 := Lib.hid (OA30.out.only y31 (fun b hb hn => hn (.inl (ownB1 hb))))
                   have OB31 := Lib.hid (OB30.out.only y31 (fun b hb hn => hn (.inr (ownB1 hb))))
                   have HM31 := Lib.hid (homes_all u31 s31 (by omega) (fun k hk => (u31.lt k hk).2))
                   clear u31 s31 y31))
              go_wp2_with (first
                | (go_at_call 16; refine HM31.out.mono ?_; rintro e w32 ⟨A32, c32, rfl, o32, u32, y32⟩
                   have OA32 := Lib.hid (OA31.out.only y32 (fun b hb hn => hn (.inl (ownB1 hb))))
                   have OB32 := Lib.hid (OB31.out.only y32 (fun b hb hn => hn (.inr (ownB1 hb))))
                   have BL32 := Lib.hid u32.up.bel
                   have AL32 := Lib.hid (alike_s (c := c32) (d := cw) o32.hasS OA32.out.hasS (by omega) true (decide_eq_true rfl))
                   clear o32 u32 y32)
                | (go_at_call 23; refine AL32.out.mono ?_; rintro e w33 ⟨rfl, b33, _⟩
                   have BL33 := Lib.hid (BL32.out.trans (b33.mono BL32.out.size))
                   clear b33))
              go_ret
              exact ⟨rfl, BL33.out⟩
            · by_cases hq : hsL (foH H at1 d) 50 = hsL H 50
              · have CO := Lib.hid (B30.out.open_ (p := ⟨m', 0⟩) (RS.ds Q30.out CM30.out) (by omega))
                go_upto_region 29 with (first
                  | (go_at_call 15; refine CO.out.mono ?_; rintro e w31 ⟨g', gp', p', j', rfl, u31, s31, _, _, y31⟩
                     have OA31 := Lib.hid (OA30.out.only y31 (fun b hb hn => hn (.inl (ownB1 hb))))
                     have OB31 := Lib.hid (OB30.out.only y31 (fun b hb hn => hn (.inr (ownB1 hb))))
                     have HM31 := Lib.hid (homes_all u31 s31 (by omega) (fun k hk => (u31.lt k hk).2))
                     clear u31 s31 y31))
                go_wp2_with (first
                  | (go_at_call 16; refine HM31.out.mono ?_; rintro e w32 ⟨A32, c32, rfl, o32, u32, y32⟩
                     have OA32 := Lib.hid (OA31.out.only y32 (fun b hb hn => hn (.inl (ownB1 hb))))
                     have OB32 := Lib.hid (OB31.out.only y32 (fun b hb hn => hn (.inr (ownB1 hb))))
                     have BL32 := Lib.hid u32.up.bel
                     have AL32 := Lib.hid (alike_s (c := c32) (d := cw) o32.hasS OA32.out.hasS (by omega) true (decide_eq_true hq))
                     clear o32 u32 y32)
                  | (go_at_call 23; refine AL32.out.mono ?_; rintro e w33 ⟨rfl, b33, _⟩
                     have BL33 := Lib.hid (BL32.out.trans (b33.mono BL32.out.size))
                     clear b33))
                go_ret
                exact ⟨rfl, BL33.out⟩
              · have CO := Lib.hid (B30.out.open_ (p := ⟨m', 0⟩) (RS.ds Q30.out CM30.out) (by omega))
                go_upto_region 29 with (first
                  | (go_at_call 15; refine CO.out.mono ?_; rintro e w31 ⟨g', gp', p', j', rfl, u31, s31, _, _, y31⟩
                     have OA31 := Lib.hid (OA30.out.only y31 (fun b hb hn => hn (.inl (ownB1 hb))))
                     have OB31 := Lib.hid (OB30.out.only y31 (fun b hb hn => hn (.inr (ownB1 hb))))
                     have HM31 := Lib.hid (homes_all u31 s31 (by omega) (fun k hk => (u31.lt k hk).2))
                     clear u31 s31 y31))
                go_wp2_with (first
                  | (go_at_call 16; refine HM31.out.mono ?_; rintro e w32 ⟨A32, c32, rfl, o32, u32, y32⟩
                     have OA32 := Lib.hid (OA31.out.only y32 (fun b hb hn => hn (.inl (ownB1 hb))))
                     have OB32 := Lib.hid (OB31.out.only y32 (fun b hb hn => hn (.inr (ownB1 hb))))
                     have BL32 := Lib.hid u32.up.bel
                     have AL32 := Lib.hid (alike_s (c := c32) (d := cw) o32.hasS OA32.out.hasS (by omega) false (decide_eq_false hq))
                     have HS32 := Lib.hid o32
                     clear o32 u32 y32)
                  | (go_at_call_of 23 (Value.slice (some ⟨gw, 0, none⟩) 50 cw); refine AL32.out.mono ?_; rintro e w33 ⟨rfl, b33, y33⟩
                     have BL33 := Lib.hid (BL32.out.trans (b33.mono BL32.out.size))
                     have AL33 := Lib.hid (alike_s (c := c32) (d := c12) (HS32.out.below b33).hasS (OB32.out.only y33 (fun _ _ h => h)).hasS (by omega) true (decide_eq_true rfl))
                     clear b33 y33)
                  | (go_at_call_of 23 (Value.slice (some ⟨g12, 0, none⟩) 50 c12); refine AL33.out.mono ?_; rintro e w34 ⟨rfl, b34, _⟩
                     have BL34 := Lib.hid (BL33.out.trans (b34.mono BL33.out.size))
                     clear b34))
                go_ret
                exact ⟨rfl, BL34.out⟩
      · have PWX := QP'
        have AF := Lib.hid QS.out.aft
        have UE : Hid (UpB Z w W1 g gd gp 64 p j (fun q => q = gw ∨ False)) := Lib.hid (QU.out.less (fun q hq => hq.elim id False.elim))
        have hn : ¬ (k : Int) < (n1 : Int) := by omega
        have CPW := Lib.hid (UE.out.disk.powerA AF.out (by rw [PWX.out]; decide) A4 n4 c4 z4 (fun S hS _ => HKB.out _ UE.out.up.bel S hS) HC4.out (by have := HN.out; omega))
        go_upto_region 26 with (first
          | (go_at_call 22; refine CPW.out.mono ?_; rintro e w30 ⟨rfl, ⟨m', f', b30, q30, cm30, r30, _⟩, y30⟩
             have B30 := Lib.hid b30
             have Q30 := Lib.hid q30
             have CM30 := Lib.hid cm30
             have RR := Lib.hid r30
             have OA30 := Lib.hid (QO.out.only y30 (fun b hb hn => hn (.inl (ownB1 hb))))
             clear b30 q30 cm30 r30 y30))
        have CO := Lib.hid (B30.out.open_ (p := ⟨m', 0⟩) (RR.out.ds Q30.out CM30.out) (by omega))
        go_upto_region 29 with (first
          | (go_at_call 15; refine CO.out.mono ?_; rintro e w31 ⟨g', gp', p', j', rfl, u31, s31, _, _, y31⟩
             have OA31 := Lib.hid (OA30.out.only y31 (fun b hb hn => hn (.inl (ownB1 hb))))
             have HM31 := Lib.hid (homes_all u31 s31 (by omega) (fun k hk => (u31.lt k hk).2))
             clear u31 s31 y31))
        go_wp2_with (first
          | (go_at_call 16; refine HM31.out.mono ?_; rintro e w32 ⟨A32, c32, rfl, o32, u32, y32⟩
             have OA32 := Lib.hid (OA31.out.only y32 (fun b hb hn => hn (.inl (ownB1 hb))))
             have BL32 := Lib.hid u32.up.bel
             have AL32 := Lib.hid (alike_s (c := c32) (d := cw) o32.hasS OA32.out.hasS (by omega) true (decide_eq_true rfl))
             clear o32 u32 y32)
          | (go_at_call 23; refine AL32.out.mono ?_; rintro e w33 ⟨rfl, b33, _⟩
             have BL33 := Lib.hid (BL32.out.trans (b33.mono BL32.out.size))
             clear b33))
        go_ret
        exact ⟨rfl, BL33.out⟩
    · have PWX := QP'
      have AF := Lib.hid QS.out.aft
      have UE : Hid (UpB Z w W1 g gd gp 64 p j (fun q => q = gw ∨ False)) := Lib.hid (QU.out.less (fun q hq => hq.elim id False.elim))
      have hn : ¬ (k : Int) < (n0 : Int) := by omega
      have CPW := Lib.hid (UE.out.disk.powerA AF.out (by rw [PWX.out]; decide) A4 n4 c4 z4 (fun S hS _ => HKB.out _ UE.out.up.bel S hS) HC4.out (by have := HN.out; omega))
      go_upto_region 26 with (first
        | (go_at_call 22; refine CPW.out.mono ?_; rintro e w30 ⟨rfl, ⟨m', f', b30, q30, cm30, r30, _⟩, y30⟩
           have B30 := Lib.hid b30
           have Q30 := Lib.hid q30
           have CM30 := Lib.hid cm30
           have RR := Lib.hid r30
           have OA30 := Lib.hid (QO.out.only y30 (fun b hb hn => hn (.inl (ownB1 hb))))
           clear b30 q30 cm30 r30 y30))
      have CO := Lib.hid (B30.out.open_ (p := ⟨m', 0⟩) (RR.out.ds Q30.out CM30.out) (by omega))
      go_upto_region 29 with (first
        | (go_at_call 15; refine CO.out.mono ?_; rintro e w31 ⟨g', gp', p', j', rfl, u31, s31, _, _, y31⟩
           have OA31 := Lib.hid (OA30.out.only y31 (fun b hb hn => hn (.inl (ownB1 hb))))
           have HM31 := Lib.hid (homes_all u31 s31 (by omega) (fun k hk => (u31.lt k hk).2))
           clear u31 s31 y31))
      go_wp2_with (first
        | (go_at_call 16; refine HM31.out.mono ?_; rintro e w32 ⟨A32, c32, rfl, o32, u32, y32⟩
           have OA32 := Lib.hid (OA31.out.only y32 (fun b hb hn => hn (.inl (ownB1 hb))))
           have BL32 := Lib.hid u32.up.bel
           have AL32 := Lib.hid (alike_s (c := c32) (d := cw) o32.hasS OA32.out.hasS (by omega) true (decide_eq_true rfl))
           clear o32 u32 y32)
        | (go_at_call 23; refine AL32.out.mono ?_; rintro e w33 ⟨rfl, b33, _⟩
           have BL33 := Lib.hid (BL32.out.trans (b33.mono BL32.out.size))
           clear b33))
      go_ret
      exact ⟨rfl, BL33.out⟩
end Go.Proofs.Ythfmkdeglceppaa
