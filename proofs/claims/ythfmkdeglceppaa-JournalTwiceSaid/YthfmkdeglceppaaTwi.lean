/-
  Own work. The statements of layer 6: JournalTwice.
-/
import Derived.Test.YthfmkdeglceppaaFv
import Derived.Test.YthfmkdeglceppaaLg
import Derived.Test.YthfmkdeglceppaaPl
import Derived.Laws.Small
namespace Go.Proofs.Ythfmkdeglceppaa
open Go.RowKit Go.Maps
set_option linter.unusedVariables false
set_option linter.unusedSimpArgs false

section
variable {Z : DK} {w0 W W' : World} {g gd gp n V V' T T' u r : Nat} {p p' : Pt} {j j' : JM} {m : RM} {H : Nat → List UInt8} {B D : Nat → Prop} {js : List (Nat × Nat × JM)}
/-- Whatever is asked to be committed: the journal stays one. -/
theorem SJ.any (a : SJ p n V j T u r H) (hV : V + n + 60 ≤ 1073000000) (l : List Pu) : ∃ T' u' H', SJ (cmt p n j l).p n (V + n + 43) (cmt p n j l).j T' u' r H' := by
  by_cases hv : lstE n j l = 0
  · by_cases hl : l = []
    · subst hl
      rw [a.nil]
      exact ⟨_, _, _, a.more (by omega)⟩
    · exact ⟨_, _, _, (a.commit hV hv hl).2⟩
  · rw [a.bad hv]
    exact ⟨_, _, _, a.more (by omega)⟩
theorem lsP_len {l : List PsR} (h : ∀ x ∈ l, x.d.length ≤ 600) : ∀ y ∈ lsP l, y.data.length ≤ 1073741824 := by
  intro y hy
  unfold lsP at hy
  obtain ⟨x, hx, rfl⟩ := List.mem_map.1 hy
  show (if x.odd = true then x.d else fullL x.d).length ≤ _
  split
  · have := h x hx; omega
  · rw [fullL_len]; omega
/-- What homes of one of them hands back, as texts. -/
def HomesF (Z : DK) (w0 W : World) (gd n : Nat) (p : Pt) (js : List (Nat × Nat × JM)) (D : Nat → Prop) (h : Nat) (H : Nat → List UInt8) (en : Ending) (W' : World) : Prop :=
  ∃ A c, en = .returned (.slice A h c) ∧ HasS W' A h (hsL H h) ∧ Fam Z w0 W' gd n p js D ∧ Only (fun k => ¬ D k) W W'
theorem Fam.homesF (a : Fam Z w0 W gd n p js D) (hx : (g, gp, j) ∈ js) (st : Stale p n j r H) {h : Nat} (hh : n - 2 - r = h) :
    Calls Try.prog 16 #[.pointer (some ⟨g, 0, none⟩)] W (HomesF Z w0 W gd n p js D h H) := by
  subst hh
  refine (a.homes hx st).mono ?_
  rintro en W' ⟨⟨A, c, h1, h2⟩, h3, h4⟩
  exact ⟨A, c, h1, h2.hasS, h3, h4⟩
theorem Fam.turnF (a : Fam Z w0 W gd n p js D) (hx : (g, gp, j) ∈ js) (ht : j.k.turn = T) (h1 : 1 ≤ T) :
    Calls Try.prog 26 #[.pointer (some ⟨g, 0, none⟩)] W (RetW W (.int .u64 ((T - 1 : Nat) : Int))) := by
  subst ht
  exact a.turn hx h1
theorem chkE_dead (h : p.m.powers ≠ j.lives) : chkE p j ≠ 0 := by
  unfold chkE
  rw [if_pos (.inr h)]
  decide
end
theorem alike_same {W : World} {A B : Option Addr} {n c d : Nat} {xs : List (List UInt8)} (ha : HasS W A n xs) (hb : HasS W B n xs) (hn : n ≤ 100000) :
    Calls Try.prog 23 #[.slice A n c, .slice B n d] W fun en W' => en = .returned (.bool true) ∧ Below W.heap.size W W' ∧ Only (fun _ => False) W W' := by
  have q := alike_any (c := c) (d := d) ha hb hn hn
  rw [decide_eq_true rfl] at q
  refine q.mono ?_
  rintro en W' ⟨rfl, k, rfl⟩
  have hb : Below W.heap.size W (W.drewN k) := ⟨rfl, rfl, rfl, Nat.le_refl _, fun _ _ => rfl⟩
  exact ⟨rfl, hb, Only.of_below hb (Nat.le_refl _)⟩
set_option maxRecDepth 100000 in
set_option maxHeartbeats 4000000 in
theorem twice_law (Z : DK) (a0 : Int) (A1 : Option Addr) (n1 c1 : Nat) (ll : List (List PsR)) (A2 : Option Addr) (n2 c2 : Nat) (z2 : List Bool) (w : World) (h0 : -9223372036854775808 ≤ a0 ∧ a0 ≤ 9223372036854775807) (hp : HasPps w w.heap.size A1 n1 ll) (ho : HasBo w w.heap.size A2 n2 z2) (hc2 : n2 ≤ c2) :
    Calls Try.prog 6 #[.int .i64 a0, .slice A1 n1 c1, .slice A2 n2 c2] w (RetTrue w) := by
  have CB := Lib.hid (fun W => begun6_any Z W)
  have HP := Lib.hid hp
  have HO := Lib.hid ho
  have L1 := Lib.hid hp.1
  by_cases hl1 : 12 < n1
  · have hl : (12 : Int) < (n1 : Int) := by omega
    clear hp ho h0
    go_enter Try.func6, Try.ntmps6
    go_wp2_with (first
      | (go_at_call 11; refine (CB.out _).mono ?_; rintro e w1 ⟨rfl, b1⟩
         have B1 := Lib.hid b1
         clear b1))
    go_ret
    exact ⟨rfl, B1.out⟩
  by_cases hl2 : 200 < n2
  · have hl : (200 : Int) < (n2 : Int) := by omega
    have hl' : ¬ (12 : Int) < (n1 : Int) := by omega
    clear hp ho h0
    go_enter Try.func6, Try.ntmps6
    go_wp2_with (first
      | (go_at_call 11; refine (CB.out _).mono ?_; rintro e w1 ⟨rfl, b1⟩
         have B1 := Lib.hid b1
         clear b1))
    go_ret
    exact ⟨rfl, B1.out⟩
  have hl1' : ¬ (12 : Int) < (n1 : Int) := by omega
  have hl2' : ¬ (200 : Int) < (n2 : Int) := by omega
  have HN : Hid (n1 ≤ 12 ∧ n2 ≤ 200) := Lib.hid (by omega)
  have HC2 := Lib.hid hc2
  have HKB : Hid (∀ W, Below w.heap.size w W → ∀ S : Nat → Prop, (∀ k, S k → w.heap.size ≤ k) → HasNo W S A2 n2 z2) := Lib.hid (fun W hb S hS => (HO.out.only (S := fun _ => False) (Only.of_below hb (Nat.le_refl _)) (Nat.le_refl _) (fun _ _ h => h)).outside hb.size (fun k hk hs => absurd (hS k hs) (by omega)))
  have CP0 := Lib.hid (fun W => place_any a0 30 W h0 (by omega) (by omega))
  have CN : Hid (∀ W, Below w.heap.size w W → Calls Try.prog 13 #[.int .i64 80] W fun e W' => ∃ g, e = .returned (.pointer (some ⟨g, 0, none⟩)) ∧ OnD Z w W' g 80 (newM 80)) := Lib.hid (fun W hb => new_up Z w W hb 80 (by omega) (by omega))
  obtain ⟨q0, c0⟩ := QP.new 80 (by omega) (by omega)
  have hpw : ∀ r, (fmtP (newM 80) 80 r).m.powers = 0 := fun r => fmtP_powers _ _ _
  obtain ⟨M0, hM0⟩ : ∃ M0, newM 80 = M0 := ⟨_, rfl⟩
  rw [hM0] at q0 c0 CN hpw
  have hm0 : M0.wrote = 0 := by rw [← hM0]; rfl
  obtain ⟨P1, hP1⟩ : ∃ P1 : Nat → Pt, ∀ r, fmtP M0 80 r = P1 r := ⟨fun r => _, fun _ => rfl⟩
  have PW1 : Hid (∀ r, (P1 r).m.powers = 0) := Lib.hid (fun r => by rw [← hP1]; exact hpw r)
  have DS1 : Hid (∀ r : Nat, 8 ≤ r → r ≤ 37 → DS (P1 r) 80 81 1 r (fun _ => zsec)) := Lib.hid (fun r g1 g2 => by rw [← hP1]; exact DS.fmt q0 (by omega) r g1 (by omega) (by omega))
  have CF : Hid (∀ (r : Nat) gd W, 8 ≤ r → r ≤ 37 → OnD Z w W gd 80 M0 → Calls Try.prog 14 #[.pointer (some ⟨gd, 0, none⟩), .int .i64 (r : Int)] W fun en W' => (∃ e : Int, en = .returned (.int .i64 e)) ∧ OnD Z w W' gd 80 (P1 r).m) := Lib.hid (fun r gd W g1 g2 a => (format_up a r q0.ok (by rw [hm0]; omega) g1 (by omega) (by omega)).mono (by rintro en W' ⟨h, h'⟩; rw [hP1] at h'; exact ⟨⟨_, h⟩, h'⟩))
  clear hM0 hm0 hP1 q0 c0 h0 hp ho hpw hc2
  go_enter Try.func6, Try.ntmps6
  go_upto_region 6 with (first
    | (go_at_call 11; refine (CB.out _).mono ?_; rintro e w1 ⟨rfl, b1⟩
       have B1 := Lib.hid b1
       clear b1)
    | (go_at_call 13; refine (CN.out _ B1.out).mono ?_; rintro e w3 ⟨gd, rfl, a3⟩
       have A3 := Lib.hid a3
       clear a3))
  go_upto_region 7 with (first
    | (go_at_call_of 12 (Value.int .i64 30); refine (CP0.out _).mono ?_; rintro e w2 ⟨⟨r0, hr0, rfl⟩, rfl⟩
       obtain ⟨r, hr⟩ : ∃ r, r = 8 + r0 := ⟨_, rfl⟩
       have er : (8 : Int) + (r0 : Int) = (r : Int) := by omega
       have ER := Lib.hid er
       have hr8 : 8 ≤ r := by omega
       have hr37 : r ≤ 37 := by omega
       clear er hr)
    | (go_at_call 14; rw [ER.out]; refine (CF.out r _ _ hr8 hr37 A3.out).mono ?_; rintro e w4 ⟨⟨ef, rfl⟩, a4⟩
       have A4 := Lib.hid a4
       have C4 := Lib.hid ((a4.b).open_ (p := P1 r) (V := 81) (T := 1) (r := r) (H := fun _ => zsec) (DS1.out r hr8 hr37) (by omega))
       clear a4))
  clear hr0
  obtain ⟨h, hh⟩ : ∃ h, 80 - 2 - r = h := ⟨_, rfl⟩
  have HH := Lib.hid hh
  have hh1 : 41 ≤ h := by omega
  have hh2 : h ≤ 70 := by omega
  clear hh
  go_upto_region 11 with (first
    | (go_at_call 15; refine C4.out.mono ?_; rintro e w5 ⟨g, gp, p, j, rfl, a5, b5, pw5, _⟩
       have A5 := Lib.hid a5
       have B5 := Lib.hid b5
       have PW5 : Hid (p.m.powers = 0) := Lib.hid (pw5.trans (PW1.out r))
       clear a5 b5 pw5))
  have N12 : n1 ≤ 12 := HN.out.1
  clear C4 A4
  have BL5 : Hid (Below w.heap.size w w5) := Lib.hid A5.out.up.bel
  go_loopw [10] (fun i wr => ∃ (k T u : Nat) (p : Pt) (j : JM) (H : Nat → List UInt8), k ≤ n1 ∧ i = .int .i64 (k : Int) ∧ UpB Z w wr g gd gp 80 p j (fun _ => False) ∧ SJ p 80 (200 + 123 * k) j T u r H ∧ p.m.powers = 0) (fun i _ => n1 - (Go.RowKit.intOf i).toNat)
  case atStart => exact ⟨0, 1, 0, p, j, _, Nat.zero_le _, rfl, A5.out, B5.out.more (by omega), PW5.out⟩
  case round =>
    clear A5 B5 PW5
    obtain ⟨k, T, u, p, j, H, hk, rfl, qu, qs, qp⟩ := hrel
    obtain ⟨W1, rfl⟩ : ∃ W, W = wr := ⟨_, rfl⟩
    have QU := Lib.hid qu
    have QS := Lib.hid qs
    have QP' := Lib.hid qp
    clear qu qs qp
    by_cases hlt : k < n1
    · obtain ⟨g0, o0, rfl, hg0, hcl⟩ := HP.out.2 (by omega)
      obtain ⟨l, hl⟩ : ∃ l, ll[k]? = some l := ⟨_, List.getElem?_eq_getElem (by rw [← L1.out]; exact hlt)⟩
      obtain ⟨A', n', c', hc', hp', _, _⟩ := hcl k l hl
      have KC : Hid (∀ W, Below w.heap.size w W → W.cell? ⟨g0, o0 + k, none⟩ = some (.slice A' n' c')) := Lib.hid (fun W hb => (hb.cell hg0).trans hc')
      have k1 := KC.out W1 QU.out.up.bel
      have HPL : Hid (∀ W, Below w.heap.size w W → HasPs W A' n' l) := Lib.hid (fun W hb => hp'.below hb)
      have hn' : n' = l.length := hp'.1
      have HNL := Lib.hid hn'
      have LG := Lib.hid (light_any (c := c') (HPL.out W1 QU.out.up.bel))
      clear hcl hl hc' hp' hn'
      obtain ⟨lb, hlb⟩ : ∃ lb, ltB l = lb := ⟨_, rfl⟩
      rw [hlb] at LG
      have LB := Lib.hid hlb
      clear hlb
      by_cases hb : lb = true
      · subst hb
        have LI := ltB_inv LB.out
        have hn60 : n' ≤ 60 := by rw [HNL.out]; exact LI.1
        have LL := Lib.hid LI.2
        clear LI
        go_upto_region 15 with (first
          | (go_at_call 19; refine LG.out.mono ?_; rintro e w2 ⟨rfl, b2⟩
             have U2 := Lib.hid (QU.out.below b2)
             have k2 := KC.out w2 (QU.out.below b2).up.bel
             clear b2))
        have LS := Lib.hid (list_any (c := c') (HPL.out w2 U2.out.up.bel) (by omega) (fun x hx => by have := LL.out x hx; omega))
        go_wp2_with (first
          | (go_at_call 20; refine LS.out.mono ?_; rintro e w3 ⟨A3, c3, rs, rfl, pr3, pl3, b3, _⟩
             have U3 := U2.out.below b3
             have hpu := pr3.puts
             rw [pl3] at hpu
             have CM := Lib.hid (U3.commit QS.out (by omega) A3 n' c3 _ hpu (by omega) (lsP_len LL.out))
             clear U3 hpu pr3 pl3 b3)
          | (go_at_call 21; refine CM.out.mono ?_; rintro e w4 ⟨rfl, u4, y4⟩
             have U4 := Lib.hid u4
             clear u4 y4))
        obtain ⟨T', u', H', s4⟩ := QS.out.any (by omega) (lsP l)
        have S4 := Lib.hid s4
        have PW4 : Hid ((cmt p 80 j (lsP l)).p.m.powers = 0) := Lib.hid ((cmt_powers ..).trans QP'.out)
        clear s4
        go_roundw
        case rel => exact ⟨k + 1, T', u', _, _, H', by omega, by go_num, U4.out, S4.out.more (by omega), PW4.out⟩
        case measure => simp [Go.RowKit.intOf]; omega
      · have hb2 : lb = false := by simpa using hb
        subst hb2
        clear hb
        go_wp2_with (first
          | (go_at_call 19; refine LG.out.mono ?_; rintro e w2 ⟨rfl, b2⟩
             have U2 := Lib.hid (QU.out.below b2)
             clear b2))
        go_ret
        exact ⟨rfl, U2.out.up.bel⟩
    · obtain rfl : k = n1 := by omega
      obtain ⟨V, hV⟩ : ∃ V, V = 200 + 123 * k := ⟨_, rfl⟩
      have hV2 : V ≤ 1700 := by omega
      have QS2 := QS.out
      rw [← hV] at QS2
      have QV := Lib.hid QS2
      have bh := QS2.homes
      have T1 : 1 ≤ T := bh.2.2.2.2.2.2.2.2.2.1
      have JT : Hid (j.k.turn = T) := Lib.hid bh.2.2.1
      have JL : Hid (j.lives = 0) := Lib.hid (bh.2.2.2.2.2.2.2.2.2.2.2.trans QP'.out)
      have JU : Hid (j.used ≤ j.k.ring) := Lib.hid (by rw [bh.2.2.2.1, bh.2.1]; exact bh.2.2.2.2.2.2.2.2.1)
      clear QS QS2 hV bh
      have HM5 := homes_st QU.out (QV.out.now (by omega))
      rw [HH.out] at HM5
      have HM := Lib.hid HM5
      have TI : Hid (∀ W, UpB Z w W g gd gp 80 p j (fun _ => False) → True) := Lib.hid (fun _ _ => trivial)
      clear HM5 TI
      go_upto_region 17 with (first
        | (go_at_call 16; refine HM.out.mono ?_; rintro e w6 ⟨A6, c6, rfl, o6, u6, _⟩
           have O6 := Lib.hid o6
           have U6 := Lib.hid (u6.less (B' := fun k => (Value.slice A6 h c6).ownBlock = some k) (fun k hk => .inr hk))
           have TU := Lib.hid (turn_up u6.up QV.out)
           clear o6 u6)
        | (go_at_call 26; refine TU.out.mono ?_; rintro e w6' ⟨rfl, rfl⟩))
      clear HM TU
      have FM := Lib.hid (U6.out.fam (QV.out.jok (by omega)).2.2.1)
      have CA := Lib.hid (FM.out.open_ QV.out.ds (by omega))
      go_upto_region 18 with (first
        | (go_at_call 15; refine CA.out.mono ?_; rintro e w7 ⟨ga, gpa, pa, ja, rfl, f7, s7, pw7, y7⟩
           have F7 := Lib.hid f7
           have S7 := Lib.hid s7
           have PW7 : Hid (pa.m.powers = 0) := Lib.hid (pw7.trans QP'.out)
           have O7 := Lib.hid (O6.out.only y7 (fun b hb hn => hn hb))
           clear f7 s7 pw7 y7))
      have CBB := Lib.hid (F7.out.open_ S7.out.ds (by omega))
      clear CA O6 FM U6
      go_upto_region 19 with (first
        | (go_at_call 15; refine CBB.out.mono ?_; rintro e w8 ⟨gb, gpb, pb, jb, rfl, f8, s8, pw8, y8⟩
           have F8 := Lib.hid f8
           have S8 := Lib.hid s8
           have PW8 : Hid (pb.m.powers = 0) := Lib.hid (pw8.trans PW7.out)
           have O8 := Lib.hid (O7.out.only y8 (fun b hb hn => hn hb))
           clear f8 s8 pw8 y8))
      have TA : Hid (ja.k.turn = T) := Lib.hid S7.out.homes.2.2.1
      have TB : Hid (jb.k.turn = T) := Lib.hid S8.out.homes.2.2.1
      have STA := Lib.hid (S7.out.stale S8.out (PW8.out.trans PW7.out.symm) (by omega))
      have STB := Lib.hid (S8.out.now (by omega))
      have STJ := Lib.hid (QV.out.stale S8.out (PW8.out.trans QP'.out.symm) (by omega))
      have C1 := Lib.hid (F8.out.homesF (g := ga) (gp := gpa) (j := ja) (by simp) STA.out HH.out)
      clear CBB F7 O7
      go_upto_region 21 with (first
        | (go_at_call_of 16 (Value.pointer (some ⟨ga, 0, none⟩)); refine C1.out.mono ?_; rintro e w9 ⟨A9, c9, rfl, h9, f9, y9⟩
           have F9 := Lib.hid f9
           have O9 := Lib.hid (O8.out.only y9 (fun b hb hn => hn hb))
           have AL9 := Lib.hid (alike_same (c := c9) (d := c6) h9 O9.out.hasS (by omega))
           clear h9 f9 y9)
        | (go_at_call_of 23 (Value.slice A9 h c9); refine AL9.out.mono ?_; rintro e w10 ⟨rfl, b10, y10⟩
           have F10 := Lib.hid (F9.out.below b10)
           have O10 := Lib.hid (O9.out.only y10 (fun _ _ h => h))
           have C2 := Lib.hid (F10.out.homesF (g := gb) (gp := gpb) (j := jb) (by simp) STB.out HH.out)
           clear b10 y10)
        | (go_at_call_of 16 (Value.pointer (some ⟨gb, 0, none⟩)); refine C2.out.mono ?_; rintro e w11 ⟨A11, c11, rfl, h11, f11, y11⟩
           have F11 := Lib.hid f11
           have O11 := Lib.hid (O10.out.only y11 (fun b hb hn => hn hb))
           have AL11 := Lib.hid (alike_same (c := c11) (d := c6) h11 O11.out.hasS (by omega))
           clear h11 f11 y11)
        | (go_at_call_of 23 (Value.slice A11 h c11); refine AL11.out.mono ?_; rintro e w12 ⟨rfl, b12, y12⟩
           have F12 := Lib.hid (F11.out.below b12)
           have O12 := Lib.hid (O11.out.only y12 (fun _ _ h => h))
           have T3 := Lib.hid (F12.out.turnF (g := ga) (gp := gpa) (j := ja) (by simp) TA.out T1)
           have T4 := Lib.hid (F12.out.turnF (g := gb) (gp := gpb) (j := jb) (by simp) TB.out T1)
           have C5 := Lib.hid (F12.out.homesF (g := g) (gp := gp) (j := j) (by simp) STJ.out HH.out)
           clear b12 y12)
        | (go_at_call_of 26 (Value.pointer (some ⟨ga, 0, none⟩)); refine T3.out.mono ?_; rintro e w13 ⟨rfl, rfl⟩)
        | (go_at_call_of 26 (Value.pointer (some ⟨gb, 0, none⟩)); refine T4.out.mono ?_; rintro e w14 ⟨rfl, rfl⟩)
        | (go_at_call_of 16 (Value.pointer (some ⟨g, 0, none⟩)); refine C5.out.mono ?_; rintro e w15 ⟨A15, c15, rfl, h15, f15, y15⟩
           have F15 := Lib.hid f15
           have O15 := Lib.hid (O12.out.only y15 (fun b hb hn => hn hb))
           have AL15 := Lib.hid (alike_same (c := c15) (d := c6) h15 O15.out.hasS (by omega))
           clear h15 f15 y15)
        | (go_at_call_of 23 (Value.slice A15 h c15); refine AL15.out.mono ?_; rintro e w16 ⟨rfl, b16, y16⟩
           have F16 := Lib.hid (F15.out.below b16)
           have O16 := Lib.hid (O15.out.only y16 (fun _ _ h => h))
           clear b16 y16))
      clear C1 F8 O8 F9 O9 AL9 F10 O10 C2 F11 O11 AL11 F12 O12 T3 T4 C5 F15 O15 AL15
      have jk := S8.out.jok (by omega)
      have D17 := Lib.hid (S8.out.ds.power z2 (by have := PW8.out; omega))
      have CPW := Lib.hid (F16.out.power jk.2.1 (by have := PW8.out; omega) A2 n2 c2 z2 (fun S hS => HKB.out _ F16.out.bel S hS) HC2.out (by have := HN.out.2; omega))
      clear jk
      go_upto_region 22 with (first
        | (go_at_call 22; refine CPW.out.mono ?_; rintro e w17 ⟨rfl, f17, y17⟩
           have F17 := Lib.hid f17
           have O17 := Lib.hid (O16.out.only y17 (fun b hb hn => hn hb))
           clear f17 y17))
      have CC := Lib.hid (F17.out.open_ D17.out.1 (by omega))
      clear CPW F16 O16
      go_upto_region 23 with (first
        | (go_at_call 15; refine CC.out.mono ?_; rintro e w18 ⟨gc, gpc, pc, jc, rfl, f18, s18, pw18, y18⟩
           have F18 := Lib.hid f18
           have S18 := Lib.hid s18
           have PW18 : Hid (pc.m.powers = 1) := Lib.hid (by
             rw [pw18]
             show (pb.m.powerM 80 z2).powers = 1
             rw [D17.out.2, PW8.out])
           have O18 := Lib.hid (O17.out.only y18 (fun b hb hn => hn hb))
           clear f18 s18 pw18 y18))
      have LB8 : Hid (jb.lives = 0) := Lib.hid (S8.out.homes.2.2.2.2.2.2.2.2.2.2.2.trans PW8.out)
      have TC : Hid (jc.k.turn = T) := Lib.hid S18.out.homes.2.2.1
      have jk := S18.out.jok (by omega)
      have OK18 := Lib.hid jk.2.1
      have WR18 : Hid (pc.m.wrote ≤ 1073720000) := Lib.hid (by have := jk.2.2.2.1; omega)
      have STC := Lib.hid (S18.out.now (by omega))
      have CD := Lib.hid (F18.out.dead (x := (gb, gpb, jb)) (by simp) OK18.out (chkE_dead (by rw [PW18.out, LB8.out]; decide)) 0 (by omega))
      clear jk CC F17 O17
      go_upto_region 24 with (first
        | (go_at_call 28; refine CD.out.mono ?_; rintro e w19 ⟨⟨A19, q19, c19, rfl⟩, f19, y19⟩
           have F19 := Lib.hid f19
           have O19 := Lib.hid (O18.out.only y19 (fun b hb hn => hn hb))
           clear f19 y19))
      have C6 := Lib.hid (F19.out.homesF (g := gc) (gp := gpc) (j := jc) (by simp) STC.out HH.out)
      clear CD F18 O18
      go_wp2_with (first
        | (go_at_call 16; refine C6.out.mono ?_; rintro e w20 ⟨A20, c20, rfl, h20, f20, y20⟩
           have F20 := Lib.hid f20
           have O20 := Lib.hid (O19.out.only y20 (fun b hb hn => hn hb))
           have AL20 := Lib.hid (alike_same (c := c20) (d := c6) h20 O20.out.hasS (by omega))
           clear h20 f20 y20)
        | (go_at_call 23; refine AL20.out.mono ?_; rintro e w21 ⟨rfl, b21, y21⟩
           have F21 := Lib.hid (F20.out.below b21)
           have T7 := Lib.hid (F21.out.turnF (g := gc) (gp := gpc) (j := jc) (by simp) TC.out T1)
           have CN9 := Lib.hid (F21.out.nil (x := (g, gp, j)) (by simp) OK18.out (chkE_dead (by rw [PW18.out, JL.out]; decide)) WR18.out JU.out)
           clear b21 y21)
        | (go_at_call 26; refine T7.out.mono ?_; rintro e w22 ⟨rfl, rfl⟩)
        | (go_at_call 21; refine CN9.out.mono ?_; rintro e w23 ⟨rfl, f23, _⟩
           have B23 := Lib.hid f23.bel
           clear f23))
      go_ret
      exact ⟨rfl, B23.out⟩
end Go.Proofs.Ythfmkdeglceppaa
