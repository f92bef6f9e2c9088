/-
  Own work. The statements of layer 6: JournalFront.
-/
import Derived.Test.YtadagbkfemcgfaaFrl
import Derived.Test.YtadagbkfemcgfaaLg
import Derived.Test.YtadagbkfemcgfaaPa
import Derived.Test.YtadagbkfemcgfaaIr
import Derived.Test.YtadagbkfemcgfaaPl
import Derived.Laws.Small
import Derived.IntWalk
import Derived.Deep.CutBlock
namespace Go.Proofs.Ytadagbkfemcgfaa
open Go.RowKit Go.Maps
set_option linter.unusedVariables false
set_option linter.unusedSimpArgs false

theorem lsP_lenF {l : List PsR} (h : ∀ x ∈ l, x.d.length ≤ 600) : ∀ y ∈ lsP l, y.data.length ≤ 1073741824 := by
  intro y hy
  unfold lsP at hy
  obtain ⟨x, hx, rfl⟩ := List.mem_map.1 hy
  show (if x.odd = true then x.d else fullL x.d).length ≤ _
  split
  · have := h x hx; omega
  · rw [fullL_len]; omega
set_option maxRecDepth 100000 in
set_option maxHeartbeats 16000000 in
theorem front_law (Z : DK) (a0 : Int) (A1 : Option Addr) (n1 c1 : Nat) (ll : List (List PsR)) (a2 a3 : Int) (A4 : Option Addr) (n4 c4 : Nat) (z4 : List Bool) (a5 a6 : Int) (A7 : Option Addr) (n7 c7 : Nat) (z7 : List Bool) (w : World) (h0 : -9223372036854775808 ≤ a0 ∧ a0 ≤ 9223372036854775807) (hp : HasPps w w.heap.size A1 n1 ll) (h2 : -9223372036854775808 ≤ a2 ∧ a2 ≤ 9223372036854775807) (h3 : -9223372036854775808 ≤ a3 ∧ a3 ≤ 9223372036854775807) (ho4 : HasBo w w.heap.size A4 n4 z4) (hc4 : n4 ≤ c4) (h5 : -9223372036854775808 ≤ a5 ∧ a5 ≤ 9223372036854775807) (h6 : -9223372036854775808 ≤ a6 ∧ a6 ≤ 9223372036854775807) (ho7 : HasBo w w.heap.size A7 n7 z7) (hc7 : n7 ≤ c7) :
    Calls Try.prog 7 #[.int .i64 a0, .slice A1 n1 c1, .int .i64 a2, .int .i64 a3, .slice A4 n4 c4, .int .i64 a5, .int .i64 a6, .slice A7 n7 c7] w (RetTrue w) := by
  have CB := Lib.hid (fun W => begun6_any Z W)
  have HP := Lib.hid hp
  have HO4 := Lib.hid ho4
  have HO7 := Lib.hid ho7
  have L1 := Lib.hid hp.1
  by_cases hl1 : 20 < n1
  · have hl : (20 : Int) < (n1 : Int) := by omega
    clear hp ho4 ho7 h0 h2 h3 h5 h6
    go_enter Try.func7, Try.ntmps7
    go_wp2_with (first
      | (go_at_call 19; refine (CB.out _).mono ?_; rintro e w1 ⟨rfl, b1⟩
         have B1 := Lib.hid b1
         clear b1))
    go_ret
    exact ⟨rfl, B1.out⟩
  by_cases hl4 : 200 < n4
  · have hl : (200 : Int) < (n4 : Int) := by omega
    have hl1' : ¬ (20 : Int) < (n1 : Int) := by omega
    clear hp ho4 ho7 h0 h2 h3 h5 h6
    go_enter Try.func7, Try.ntmps7
    go_wp2_with (first
      | (go_at_call 19; refine (CB.out _).mono ?_; rintro e w1 ⟨rfl, b1⟩
         have B1 := Lib.hid b1
         clear b1))
    go_ret
    exact ⟨rfl, B1.out⟩
  by_cases hl7 : 200 < n7
  · have hl : (200 : Int) < (n7 : Int) := by omega
    have hl1' : ¬ (20 : Int) < (n1 : Int) := by omega
    have hl4' : ¬ (200 : Int) < (n4 : Int) := by omega
    clear hp ho4 ho7 h0 h2 h3 h5 h6
    go_enter Try.func7, Try.ntmps7
    go_wp2_with (first
      | (go_at_call 19; refine (CB.out _).mono ?_; rintro e w1 ⟨rfl, b1⟩
         have B1 := Lib.hid b1
         clear b1))
    go_ret
    exact ⟨rfl, B1.out⟩
  have hl1' : ¬ (20 : Int) < (n1 : Int) := by omega
  have hl4' : ¬ (200 : Int) < (n4 : Int) := by omega
  have hl7' : ¬ (200 : Int) < (n7 : Int) := by omega
  have HN : Hid (n1 ≤ 20 ∧ n4 ≤ 200 ∧ n7 ≤ 200) := Lib.hid (by omega)
  have HC4 := Lib.hid hc4
  have HC7 := Lib.hid hc7
  have HK4 : Hid (∀ W, Below w.heap.size w W → ∀ S : Nat → Prop, (∀ k, S k → w.heap.size ≤ k) → HasNo W S A4 n4 z4) := Lib.hid (fun W hb S hS => (HO4.out.only (S := fun _ => False) (Only.of_below hb (Nat.le_refl _)) (Nat.le_refl _) (fun _ _ h => h)).outside hb.size (fun k hk hs => absurd (hS k hs) (by omega)))
  have HK7 : Hid (∀ W, Below w.heap.size w W → ∀ S : Nat → Prop, (∀ k, S k → w.heap.size ≤ k) → HasNo W S A7 n7 z7) := Lib.hid (fun W hb S hS => (HO7.out.only (S := fun _ => False) (Only.of_below hb (Nat.le_refl _)) (Nat.le_refl _) (fun _ _ h => h)).outside hb.size (fun k hk hs => absurd (hS k hs) (by omega)))
  have CP0 := Lib.hid (fun W => place_any a0 25 W h0 (by omega) (by omega))
  have CP2 := Lib.hid (fun W => place_any a2 200 W h2 (by omega) (by omega))
  have CP5 := Lib.hid (fun W => place_any a5 60 W h5 (by omega) (by omega))
  have H3 := Lib.hid h3
  have H6 := Lib.hid h6
  have CN : Hid (∀ W, Below w.heap.size w W → Calls Try.prog 20 #[.int .i64 72] W fun e W' => ∃ g, e = .returned (.pointer (some ⟨g, 0, none⟩)) ∧ OnD Z w W' g 72 (newM 72)) := Lib.hid (fun W hb => new_up Z w W hb 72 (by omega) (by omega))
  obtain ⟨q0, c0⟩ := QP.new 72 (by omega) (by omega)
  have hpw : ∀ r, (fmtP (newM 72) 72 r).m.powers = 0 := fun r => fmtP_powers _ _ _
  obtain ⟨M0, hM0⟩ : ∃ M0, newM 72 = M0 := ⟨_, rfl⟩
  rw [hM0] at q0 c0 CN hpw
  have hm0 : M0.wrote = 0 := by rw [← hM0]; rfl
  obtain ⟨P1, hP1⟩ : ∃ P1 : Nat → Pt, ∀ r, fmtP M0 72 r = P1 r := ⟨fun r => _, fun _ => rfl⟩
  have PW1 : Hid (∀ r, (P1 r).m.powers = 0) := Lib.hid (fun r => by rw [← hP1]; exact hpw r)
  have DS1 : Hid (∀ r : Nat, 8 ≤ r → r ≤ 32 → DS (P1 r) 72 73 1 r (fun _ => zsec)) := Lib.hid (fun r g1 g2 => by rw [← hP1]; exact DS.fmt q0 (by omega) r g1 (by omega) (by omega))
  have CF : Hid (∀ (r : Nat) gd W, 8 ≤ r → r ≤ 32 → OnD Z w W gd 72 M0 → Calls Try.prog 21 #[.pointer (some ⟨gd, 0, none⟩), .int .i64 (r : Int)] W fun en W' => (∃ e : Int, en = .returned (.int .i64 e)) ∧ OnD Z w W' gd 72 (P1 r).m) := Lib.hid (fun r gd W g1 g2 a => (format_up a r q0.ok (by rw [hm0]; omega) g1 (by omega) (by omega)).mono (by rintro en W' ⟨h, h'⟩; rw [hP1] at h'; exact ⟨⟨_, h⟩, h'⟩))
  clear hM0 hm0 hP1 q0 c0 h0 hp ho4 ho7 hpw hc4 hc7 h2 h3 h5 h6
  go_enter Try.func7, Try.ntmps7
  go_upto_region 7 with (first
    | (go_at_call 19; refine (CB.out _).mono ?_; rintro e w1 ⟨rfl, b1⟩
       have B1 := Lib.hid b1
       clear b1)
    | (go_at_call 18; refine (CP0.out _).mono ?_; rintro e w2 ⟨⟨r0, hr0, rfl⟩, rfl⟩
       obtain ⟨r, hr⟩ : ∃ r, r = 8 + r0 := ⟨_, rfl⟩
       have er : (8 : Int) + (r0 : Int) = (r : Int) := by omega
       have ER := Lib.hid er
       have hr8 : 8 ≤ r := by omega
       have hr32 : r ≤ 32 := by omega
       clear er hr)
    | (go_at_call 20; refine (CN.out _ B1.out).mono ?_; rintro e w3 ⟨gd, rfl, a3'⟩
       have A3 := Lib.hid a3'
       clear a3'))
  clear hr0
  go_upto_region 8 with (first
    | (go_at_call 21; rw [ER.out]; refine (CF.out r _ _ hr8 hr32 A3.out).mono ?_; rintro e w4 ⟨⟨ef, rfl⟩, a4⟩
       have A4' := Lib.hid a4
       have C4 := Lib.hid ((a4.b).open_ (p := P1 r) (V := 73) (T := 1) (r := r) (H := fun _ => zsec) (DS1.out r hr8 hr32) (by omega))
       clear a4))
  obtain ⟨h, hh⟩ : ∃ h, 72 - 2 - r = h := ⟨_, rfl⟩
  have HH := Lib.hid hh
  have hh1 : 38 ≤ h := by omega
  have hh2 : h ≤ 62 := by omega
  clear hh
  go_upto_region 11 with (first
    | (go_at_call 22; refine C4.out.mono ?_; rintro e w5 ⟨g, gp, p, j, rfl, a5, b5, pw5, _⟩
       have A5 := Lib.hid a5
       have B5 := Lib.hid b5
       have PW5 : Hid (p.m.powers = 0) := Lib.hid (pw5.trans (PW1.out r))
       have HM := homes_all a5 b5 (by omega) (fun q hq => hq.elim)
       rw [HH.out] at HM
       have HMH := Lib.hid HM
       clear a5 b5 pw5 HM))
  clear C4 A4'
  have SOK := (B5.out.sa.facts (by omega)).2.2.2.2.2.2.2.2.2.2.2.1
  go_upto_region 14 with (first
    | (go_at_call 23; refine HMH.out.mono ?_; rintro e w6 ⟨A6, c6, rfl, o6, u6, _⟩
       obtain ⟨gl, rfl, hgl1, hgl2⟩ := o6.ptr (by omega)
       have O6 := Lib.hid (o6.base A5.out.up.bel.size)
       have U6 : Hid (UpB Z w w6 g gd gp 72 p j (fun k => k = gl)) := Lib.hid (u6.less (fun k hk => by subst hk; exact .inr rfl))
       have hb6 : Below w6.heap.size w6 (w6.alloc (.cells #[.slice (some ⟨gl, 0, none⟩) h c6] 48)) := (Below.refl _ _).alloc (Nat.le_refl _) _
       have U7 : Hid (UpB Z w (w6.alloc (.cells #[.slice (some ⟨gl, 0, none⟩) h c6] 48)) g gd gp 72 p j (fun k => k = w6.heap.size ∨ k = gl)) := Lib.hid (U6.out.own (Only.of_below hb6 (Nat.le_refl _)) (fun k hk => hk.elim (fun h => .inr ⟨by omega, by subst h; simp⟩) .inl))
       have S7 := Lib.hid (ownV_one 48 w6 w.heap.size (.slice (some ⟨gl, 0, none⟩) h c6) U6.out.up.bel.size)
       have R7 := Lib.hid (O6.out.below hb6)
       clear o6 u6 hb6 hgl1 hgl2)
    | (go_at_call 18; refine (CP2.out _).mono ?_; rintro e w9 ⟨⟨j2, hj2, rfl⟩, rfl⟩)
    | (go_at_call 24; refine (U7.out.arm SOK (j2 : Int) a3 (by omega) H3.out).mono ?_; rintro e w10 ⟨rfl, u10, y10⟩
       have AL : Hid (Al Z w w10 g gd gp r h 200 1 (.slice (some ⟨w6.heap.size, 0, none⟩) 1 1) (.int .i64 0)) := Lib.hid ⟨1, 0, 1, w6.heap.size, gl, c6, _, j, _, _, rfl, rfl, Nat.le_refl _, u10, (B5.out.sa.arm (j2 : Int) a3 (by omega)).more (by omega), PW5.out, S7.out.only y10 (fun b hb hn => hn (.inl (ownB1 hb))), rfl, R7.out.only y10 (fun b hb hn => hn (.inr (ownB1 hb)))⟩
       clear u10 y10))
  clear HMH U6 U7 S7 R7 O6 SOK hj2
  go_upto_block 0 with fail
  go_cut [20, 21] (fun s20 s21 wx => ∃ m, Exs Z w wx gd r h s20 s21 m)
  case first =>
    go_wp2_with fail
    go_loopw [20, 21, 22] (fun s20 s21 s22 wr => ∃ k, k ≤ n1 ∧ s22 = .int .i64 (k : Int) ∧ ((∃ ns, ns ≤ k + 1 ∧ Al Z w wr g gd gp r h (200 + 120 * k) ns s20 s21) ∨ (∃ m, m.off = true ∧ Exs Z w wr gd r h s20 s21 m))) (fun _ _ s22 _ => n1 - (Go.RowKit.intOf s22).toNat)
    case atStart => exact ⟨0, Nat.zero_le _, rfl, .inl ⟨1, Nat.le_refl _, AL.out⟩⟩
    case round =>
      clear AL A5 B5 PW5
      obtain ⟨k, hk, rfl, hal⟩ := hrel
      obtain ⟨W1, rfl⟩ : ∃ W, W = wr := ⟨_, rfl⟩
      have hk20 : k ≤ 20 := by have := HN.out.1; omega
      rcases hal with ⟨ns, hns, al⟩ | ⟨m, hoff, ex⟩
      · by_cases hlt : k < n1
        · obtain ⟨T, u, cs, gs, gl, cl, p, j, H, vs, rfl, rfl, hns1, qu, qs, qp, qo, qv, qr⟩ := al
          have ff := qs.facts (by omega)
          have CD := qu.dead ff.2.2.2.2.2.2.2.2.2.2.2.1
          rw [ff.2.2.2.2.2.2.2.2.2.2.2.2.2.1] at CD
          have CDH := Lib.hid CD
          have QU := Lib.hid qu
          have QS := Lib.hid qs
          have QP' := Lib.hid qp
          have QO := Lib.hid qo
          have QV := Lib.hid qv
          have QR := Lib.hid qr
          have VL : Hid (vs.length = ns) := Lib.hid qo.len.symm
          clear qu qs qp qo qv qr ff CD
          obtain ⟨g0, o0, rfl, hg0, hcl⟩ := HP.out.2 (by omega)
          obtain ⟨l, hl⟩ : ∃ l, ll[k]? = some l := ⟨_, List.getElem?_eq_getElem (by rw [← L1.out]; exact hlt)⟩
          obtain ⟨A', n', c', hc', hp', _, _⟩ := hcl k l hl
          have KC : Hid (∀ W, Below w.heap.size w W → W.cell? ⟨g0, o0 + k, none⟩ = some (.slice A' n' c')) := Lib.hid (fun W hb => (hb.cell hg0).trans hc')
          have HPL : Hid (∀ W, Below w.heap.size w W → HasPs W A' n' l) := Lib.hid (fun W hb => hp'.below hb)
          have hn' : n' = l.length := hp'.1
          have HNL := Lib.hid hn'
          clear hcl hl hc' hp' hn'
          obtain ⟨lb, hlb⟩ : ∃ lb, ltB l = lb := ⟨_, rfl⟩
          have LB := Lib.hid hlb
          clear hlb
          go_upto_region 17 with (first
            | (go_at_call 25; refine CDH.out.mono ?_; rintro e w2 ⟨rfl, b2⟩
               have U2 := Lib.hid (QU.out.below b2)
               have O2 := Lib.hid (QO.out.below b2)
               have R2 := Lib.hid (QR.out.below b2)
               have k2 := KC.out w2 (QU.out.below b2).up.bel
               have LG := light_any (c := c') (HPL.out w2 (QU.out.below b2).up.bel)
               rw [LB.out] at LG
               have LGH := Lib.hid LG
               clear b2 LG))
          by_cases hb : lb = true
          · subst hb
            have LI := ltB_inv LB.out
            have hn60 : n' ≤ 60 := by rw [HNL.out]; exact LI.1
            have LL := Lib.hid LI.2
            clear LI
            go_upto_region 19 with (first
              | (go_at_call 26; refine LGH.out.mono ?_; rintro e w3 ⟨rfl, b3⟩
                 have U3 := Lib.hid (U2.out.below b3)
                 have O3 := Lib.hid (O2.out.below b3)
                 have R3 := Lib.hid (R2.out.below b3)
                 clear b3))
            clear k2
            have kl : w3.cell? ⟨gs, ns - 1, none⟩ = some (.slice (some ⟨gl, 0, none⟩) h cl) := by
              obtain ⟨g', e', _, _, hc⟩ := O3.out.at_ (by omega)
              simp only [Option.some.injEq, Addr.mk.injEq, and_true] at e'
              subst e'
              exact hc _ _ QV.out
            have kl' : (w3.alloc (.cells #[] 9)).cell? ⟨gs, ns - 1, none⟩ = some (.slice (some ⟨gl, 0, none⟩) h cl) := (((Below.refl w3.heap.size w3).alloc (Nat.le_refl _) _).cell (by have := (O3.out.lt gs rfl).2; exact this)).trans kl
            have SRC := Lib.hid (OwnV.src (R3.out.below ((Below.refl w3.heap.size w3).alloc (Nat.le_refl _) (.cells #[] 9))) (by omega))
            have ei : ((ns : Int) - 1) = ((ns - 1 : Nat) : Int) := by omega
            clear kl
            go_upto_region 20 with (first
              | (at_builtin; go_loud (refine wp_appV rfl (.tmp 86) (.tmp 92) 48 9 _ 16 rfl Try.underlying48 infoStr rfl w3.heap.size _ [] (strs (hsL H h)) rfl (OwnV.empty 9 w3) ⟨gl, 0, none⟩ h cl rfl (by rw [strs_len]) SRC.out (strs_ones _) (by simp; omega) (by simp) ?_); intro A12 n12 c12 w4 o12 _ b12 _
                 rw [List.nil_append] at o12
                 have hn12 := o12.len
                 rw [strs_len] at hn12
                 have hn12' := hn12.symm
                 subst hn12'
                 obtain ⟨gx, rfl, hgx1, hgx2⟩ := o12.ptr (by omega)
                 have bb : Below w3.heap.size w3 w4 := ((Below.refl w3.heap.size w3).alloc (Nat.le_refl _) _).trans b12
                 have U4 : Hid (UpB Z w w4 g gd gp 72 p j (fun q => (q = gs ∨ q = gl) ∨ q = gx)) := Lib.hid (U3.out.own (Only.of_below bb (Nat.le_refl _)) (fun q hq => hq.elim .inl (fun h => .inr (by subst h; exact ⟨hgx1, hgx2⟩))))
                 have O4 := Lib.hid (O3.out.below bb)
                 have R4 := Lib.hid (R3.out.below bb)
                 have X4 := Lib.hid (o12.base U3.out.up.bel.size)
                 have HGX : Hid (w3.heap.size ≤ gx ∧ gx < w4.heap.size) := Lib.hid ⟨hgx1, hgx2⟩
                 have HGL : Hid (gs < w3.heap.size ∧ gl < w3.heap.size) := Lib.hid ⟨(O3.out.lt gs rfl).2, (R3.out.lt gl rfl).2⟩
                 have k4 := KC.out w4 U4.out.up.bel
                 have LS := Lib.hid (list_any (c := c') (HPL.out w4 U4.out.up.bel) (by omega) (fun x hx => by have := LL.out x hx; omega))
                 clear o12 bb b12 hgx1 hgx2))
            clear kl' ei SRC
            have HLN : Hid ((lsP l).length = n') := Lib.hid (by unfold lsP; rw [List.length_map, HNL.out])
            have FF := QS.out.facts (by omega)
            have FR := Lib.hid (QS.out.front (by omega) (lsP l))
            have PWX : Hid ((cmt p 72 j (lsP l)).p.m.powers = 0) := Lib.hid ((cmt_powers ..).trans QP'.out)
            have CMF : Hid (∀ W (B : Nat → Prop) (A : Option Addr) (cc : Nat), UpB Z w W g gd gp 72 p j B → HasPu W A n' (lsP l) → Calls Try.prog 28 #[.pointer (some ⟨g, 0, none⟩), .slice A n' cc] W fun en W' => en = .returned (.int .i64 (cmt p 72 j (lsP l)).e) ∧ UpB Z w W' g gd gp 72 (cmt p 72 j (lsP l)).p (cmt p 72 j (lsP l)).j B ∧ Only (fun k => ¬ B k) W W') := Lib.hid (fun W B A cc a hpu => a.commitC FF.2.2.2.2.2.2.2.2.2.2.2.1 (by have := FF.2.2.2.2.2.2.2.2.2.2.2.2.1; omega) A n' cc _ hpu (by omega) (lsP_lenF LL.out) (by rw [FF.2.2.2.1, FF.2.1]; exact FF.2.2.2.2.2.2.1))
            clear FF
            obtain ⟨R, hR⟩ : ∃ R, cmt p 72 j (lsP l) = R := ⟨_, rfl⟩
            rw [hR] at FR PWX CMF
            clear hR
            obtain ⟨L, hL⟩ : ∃ L, lsP l = L := ⟨_, rfl⟩
            rw [hL] at FR CMF HLN LS
            clear hL
            go_upto_region 22 with (first
              | (go_at_call 27; refine LS.out.mono ?_; rintro e w5 ⟨A5, c5, rs, rfl, pr5, pl5, b5, hx5⟩
                 have pf5 := pr5.puF hx5
                 have hpu := pr5.puts
                 rw [pl5] at pf5 hpu
                 have PF5 := Lib.hid pf5
                 have u5 : UpB Z w w5 g gd gp 72 p j (fun q => ((q = gs ∨ q = gl) ∨ q = gx) ∨ (w4.heap.size ≤ q ∧ q < w5.heap.size)) := U4.out.own (Only.of_below b5 (Nat.le_refl _)) (fun q hq => hq.elim .inl .inr)
                 have CM := Lib.hid (CMF.out _ _ A5 c5 u5 hpu)
                 have O5 := Lib.hid (O4.out.below b5)
                 have R5 := Lib.hid (R4.out.below b5)
                 have X5 := Lib.hid (X4.out.below b5)
                 clear pr5 pl5 b5 hx5 pf5 hpu u5)
              | (go_at_call 28; refine CM.out.mono ?_; rintro e w6 ⟨rfl, u6, y6⟩
                 have U6 := Lib.hid u6
                 have O6 := Lib.hid (O5.out.only y6 (fun b hb hn => hn (.inl (.inl (.inl (ownB1 hb))))))
                 have R6 := Lib.hid (R5.out.only y6 (fun b hb hn => hn (.inl (.inl (.inr (ownB1 hb))))))
                 have X6 := Lib.hid (X5.out.only y6 (fun b hb hn => hn (.inl (.inr (ownB1 hb)))))
                 have P6 := Lib.hid (PF5.out.only y6 (fun k h1 h2 hn => hn (.inr ⟨h1, h2⟩)))
                 clear u6 y6))
            clear k4 LS CMF CM U4 O4 R4 X4 O5 R5 X5 PF5 U3 O3 R3 U2 O2 R2 QU QO QR
            rcases FR.out with ⟨e0, e8, sa⟩ | ⟨hval, ⟨e0, T', u', sa⟩ | ⟨e8, off, okm, af⟩⟩
            · obtain ⟨ee, hee⟩ : ∃ ee, R.e = ee := ⟨_, rfl⟩
              rw [hee] at e0 e8 ⊢
              have SAN := Lib.hid sa
              have b0 : (ee != 0) = true := by simpa using e0
              have b8 : (ee != 8) = true := by simpa using e8
              clear sa hee FR
              go_wp2_with fail
              go_roundw
              case rel => exact ⟨k + 1, by omega, (by first | go_num | (congr 1; omega) | (congr 2; omega)), .inl ⟨ns, by omega, T, u, cs, gs, gl, cl, _, _, H, vs, rfl, rfl, hns1, U6.out.less (fun q hq => .inl (.inl hq)), SAN.out.more (by omega), PWX.out, O6.out, QV.out, R6.out⟩⟩
              case measure => simp [Go.RowKit.intOf]; omega
            · have HV : Hid (∀ x ∈ L, 0 ≤ x.i ∧ x.i < (h : Int) ∧ x.data.length = 512) := Lib.hid (by rw [← HH.out]; exact hval)
              rw [e0]
              have SAN := Lib.hid sa
              clear sa e0 hval FR
              go_wp2_with fail
              go_loopw [26] (fun i26 wr => ∃ q, q ≤ n' ∧ i26 = .int .i64 (q : Int) ∧ Only (fun k => k = gx) w6 wr ∧ OwnV 9 wr w.heap.size (.slice (some ⟨gx, 0, none⟩) h c12) (strs (hsL (putK H L q) h))) (fun i26 _ => n' - (Go.RowKit.intOf i26).toNat)
              case atStart => exact ⟨0, Nat.zero_le _, rfl, Only.refl _ _, X6.out⟩
              case round =>
                obtain ⟨q, hq, rfl, qy, qx⟩ := hrel
                obtain ⟨W7, rfl⟩ : ∃ W, W = wr := ⟨_, rfl⟩
                by_cases hlt2 : q < n'
                · obtain ⟨x, hx⟩ : ∃ x, L[q]? = some x := ⟨_, List.getElem?_eq_getElem (by rw [HLN.out]; exact hlt2)⟩
                  obtain ⟨v1, v2, v3⟩ := HV.out x (List.mem_of_getElem? hx)
                  obtain ⟨i, hi⟩ := Int.eq_ofNat_of_zero_le v1
                  have hih : i < h := by omega
                  obtain ⟨gq, B, q2, c2, rfl, cc1, cc2, hB, hqc, _, _, _, _⟩ := P6.out.only qy (fun k h1 h2 h3 => by have := HGX.out.2; omega) q x hx
                  have hq2 := hB.len
                  rw [v3] at hq2
                  subst hq2
                  rw [hi] at cc1
                  have PR := Lib.hid (putK_row H L q h x hx (by rw [hi]; exact hih))
                  rw [hi] at PR
                  obtain ⟨vv, hvv⟩ := strs_some (putK H L q) hih
                  have cv1 : W7.cell? ⟨gx, i, none⟩ = some vv := by
                    have := qx.src (by omega) i vv hvv
                    rwa [Addr.add_lit, Nat.zero_add] at this
                  have fv1 := qx.free i
                  have hcv : (convert 24 9 (.slice B 512 c2)).run Try.prog W7 = .ok (.string (strB x.data)) W7 := run_conv Try.underlying24 Try.underlying5 Try.underlying9 _ _ _ c2 _ hB
                  have hcv2 : (convert 24 9 (.slice B 512 c2)).run Try.prog W7.drew = .ok (.string (strB x.data)) W7.drew := run_conv Try.underlying24 Try.underlying5 Try.underlying9 W7.heap.size _ _ c2 _ hB
                  have QY := Lib.hid qy
                  have QX := Lib.hid qx
                  obtain ⟨D, hD⟩ : ∃ D, x.data = D := ⟨_, rfl⟩
                  rw [hD] at hcv hcv2 PR
                  clear qy qx hvv hB hx v1 v2 v3 hi hD hqc
                  go_upto_region 28 with fail
                  go_region
                  go_wp2_with fail
                  go_roundw
                  case rel => exact ⟨q + 1, by omega, (by first | go_num | (congr 1; omega) | (congr 2; omega)), QY.out.set1 rfl _, by rw [← PR.out, Int.toNat_natCast]; exact (QX.out.set (by rw [strs_len]; exact hih) rfl).drew⟩
                  case measure => simp [Go.RowKit.intOf]; omega
                · obtain rfl : q = n' := by omega
                  have hst : putK H L q = putH H (chs L) := by rw [← HLN.out]; exact putK_all H L
                  rw [hst] at qx
                  have U7 := Lib.hid (U6.out.own (B' := fun q => (q = gs ∨ q = gl) ∨ q = gx) (qy.mono (fun k _ hk => .inl (.inl (.inr hk)))) (fun k hk => .inl (.inl hk)))
                  have O7 := Lib.hid (O6.out.only qy (fun b hb hn => by have := ownB1 hb; have := HGX.out.1; have := HGL.out.1; omega))
                  have R7 := Lib.hid (R6.out.only qy (fun b hb hn => by have := ownB1 hb; have := HGX.out.1; have := HGL.out.2; omega))
                  have X7 := Lib.hid qx
                  have OA := Lib.hid (O7.out.alloc (.cells #[.slice (some ⟨gx, 0, none⟩) h c12] 48))
                  have BSZ : Hid (w.heap.size ≤ W7.heap.size) := Lib.hid U7.out.up.bel.size
                  clear qx qy hst
                  go_upto_region 30 with (first
                    | (at_builtin; go_loud (refine wp_appV rfl (.tmp 152) (.tmp 154) 50 48 _ 24 rfl Try.underlying50 infoSS rfl w.heap.size _ vs [.slice (some ⟨gx, 0, none⟩) h c12] rfl OA.out ⟨W7.heap.size, 0, none⟩ 1 1 rfl rfl (one_src W7 _ _) (fun u hu => by rw [List.mem_singleton.1 hu]; rfl) (by rw [VL.out]; omega) (by have := BSZ.out; simp; omega) ?_); intro A13 n13 c13 w8 o13 gr13 _ ob13
                       obtain ⟨gs2, rfl, hn13, y8, hgs2, hlt8⟩ := app_facts O7.out gr13 o13 ob13
                       have U8 : Hid (UpB Z w w8 g gd gp 72 R.p R.j (fun q => (q = gs2 ∨ q = gl) ∨ q = gx)) := Lib.hid (U7.out.own (y8.mono (fun k _ hk => hk.imp (fun h => .inl (.inl h)) id)) (fun k hk => by
                         rcases hk with (hk | hk) | hk
                         · rcases hgs2 with h9 | h9
                           · exact .inl (.inl (.inl (hk.trans h9)))
                           · exact .inr ⟨by omega, by omega⟩
                         · exact .inl (.inl (.inr hk))
                         · exact .inl (.inr hk)))
                       have O8 := Lib.hid o13
                       have R8 := Lib.hid (R7.out.only y8 (fun b hb hn => by
                         have e1 := ownB1 hb
                         have e2 := (R7.out.lt gl rfl).2
                         have e3 := O7.out.ne R7.out (by decide)
                         rcases hn with hn | hn <;> omega))
                       have X8 := Lib.hid (X7.out.only y8 (fun b hb hn => by
                         have e1 := ownB1 hb
                         have e2 := (X7.out.lt gx rfl).2
                         have e3 := O7.out.ne X7.out (by decide)
                         rcases hn with hn | hn <;> omega))
                       have N13 := Lib.hid hn13
                       have N13a : n13 ≤ 22 := by omega
                       have N13b : 1 ≤ n13 := by omega
                       clear o13 gr13 ob13 y8 hgs2 hlt8 hn13))
                  go_wp2_with fail
                  go_roundw
                  case rel => exact ⟨k + 1, by omega, (by first | go_num | (congr 1; omega) | (congr 2; omega)), .inl ⟨n13, by have := N13.out; omega, T', u', c13, gs2, gx, c12, _, _, putH H (chs L), _, rfl, (by first | rfl | (congr 1; omega) | (congr 2; omega)), N13b, U8.out.less (fun q hq => hq.elim (fun h => .inl (.inl h)) .inr), SAN.out.more (by omega), PWX.out, O8.out, by rw [N13.out, List.getElem?_append_right (by rw [VL.out]; omega), VL.out]; simp, X8.out⟩⟩
                  case measure => simp [Go.RowKit.intOf]; omega
            · have HV : Hid (∀ x ∈ L, 0 ≤ x.i ∧ x.i < (h : Int) ∧ x.data.length = 512) := Lib.hid (by rw [← HH.out]; exact hval)
              rw [e8]
              have AFN := Lib.hid af
              have OFF := Lib.hid off
              clear af e8 hval FR off okm
              go_wp2_with fail
              go_loopw [26] (fun i26 wr => ∃ q, q ≤ n' ∧ i26 = .int .i64 (q : Int) ∧ Only (fun k => k = gx) w6 wr ∧ OwnV 9 wr w.heap.size (.slice (some ⟨gx, 0, none⟩) h c12) (strs (hsL (putK H L q) h))) (fun i26 _ => n' - (Go.RowKit.intOf i26).toNat)
              case atStart => exact ⟨0, Nat.zero_le _, rfl, Only.refl _ _, X6.out⟩
              case round =>
                obtain ⟨q, hq, rfl, qy, qx⟩ := hrel
                obtain ⟨W7, rfl⟩ : ∃ W, W = wr := ⟨_, rfl⟩
                by_cases hlt2 : q < n'
                · obtain ⟨x, hx⟩ : ∃ x, L[q]? = some x := ⟨_, List.getElem?_eq_getElem (by rw [HLN.out]; exact hlt2)⟩
                  obtain ⟨v1, v2, v3⟩ := HV.out x (List.mem_of_getElem? hx)
                  obtain ⟨i, hi⟩ := Int.eq_ofNat_of_zero_le v1
                  have hih : i < h := by omega
                  obtain ⟨gq, B, q2, c2, rfl, cc1, cc2, hB, hqc, _, _, _, _⟩ := P6.out.only qy (fun k h1 h2 h3 => by have := HGX.out.2; omega) q x hx
                  have hq2 := hB.len
                  rw [v3] at hq2
                  subst hq2
                  rw [hi] at cc1
                  have PR := Lib.hid (putK_row H L q h x hx (by rw [hi]; exact hih))
                  rw [hi] at PR
                  obtain ⟨vv, hvv⟩ := strs_some (putK H L q) hih
                  have cv1 : W7.cell? ⟨gx, i, none⟩ = some vv := by
                    have := qx.src (by omega) i vv hvv
                    rwa [Addr.add_lit, Nat.zero_add] at this
                  have fv1 := qx.free i
                  have hcv : (convert 24 9 (.slice B 512 c2)).run Try.prog W7 = .ok (.string (strB x.data)) W7 := run_conv Try.underlying24 Try.underlying5 Try.underlying9 _ _ _ c2 _ hB
                  have hcv2 : (convert 24 9 (.slice B 512 c2)).run Try.prog W7.drew = .ok (.string (strB x.data)) W7.drew := run_conv Try.underlying24 Try.underlying5 Try.underlying9 W7.heap.size _ _ c2 _ hB
                  have QY := Lib.hid qy
                  have QX := Lib.hid qx
                  obtain ⟨D, hD⟩ : ∃ D, x.data = D := ⟨_, rfl⟩
                  rw [hD] at hcv hcv2 PR
                  clear qy qx hvv hB hx v1 v2 v3 hi hD hqc
                  go_upto_region 28 with fail
                  go_region
                  go_wp2_with fail
                  go_roundw
                  case rel => exact ⟨q + 1, by omega, (by first | go_num | (congr 1; omega) | (congr 2; omega)), QY.out.set1 rfl _, by rw [← PR.out, Int.toNat_natCast]; exact (QX.out.set (by rw [strs_len]; exact hih) rfl).drew⟩
                  case measure => simp [Go.RowKit.intOf]; omega
                · obtain rfl : q = n' := by omega
                  have hst : putK H L q = putH H (chs L) := by rw [← HLN.out]; exact putK_all H L
                  rw [hst] at qx
                  have U7 := Lib.hid (U6.out.own (B' := fun q => (q = gs ∨ q = gl) ∨ q = gx) (qy.mono (fun k _ hk => .inl (.inl (.inr hk)))) (fun k hk => .inl (.inl hk)))
                  have O7 := Lib.hid (O6.out.only qy (fun b hb hn => by have := ownB1 hb; have := HGX.out.1; have := HGL.out.1; omega))
                  have R7 := Lib.hid (R6.out.only qy (fun b hb hn => by have := ownB1 hb; have := HGX.out.1; have := HGL.out.2; omega))
                  have X7 := Lib.hid qx
                  have OA := Lib.hid (O7.out.alloc (.cells #[.slice (some ⟨gx, 0, none⟩) h c12] 48))
                  have BSZ : Hid (w.heap.size ≤ W7.heap.size) := Lib.hid U7.out.up.bel.size
                  clear qx qy hst
                  go_upto_region 30 with (first
                    | (at_builtin; go_loud (refine wp_appV rfl (.tmp 152) (.tmp 154) 50 48 _ 24 rfl Try.underlying50 infoSS rfl w.heap.size _ vs [.slice (some ⟨gx, 0, none⟩) h c12] rfl OA.out ⟨W7.heap.size, 0, none⟩ 1 1 rfl rfl (one_src W7 _ _) (fun u hu => by rw [List.mem_singleton.1 hu]; rfl) (by rw [VL.out]; omega) (by have := BSZ.out; simp; omega) ?_); intro A13 n13 c13 w8 o13 gr13 _ ob13
                       obtain ⟨gs2, rfl, hn13, y8, hgs2, hlt8⟩ := app_facts O7.out gr13 o13 ob13
                       have U8 : Hid (UpB Z w w8 g gd gp 72 R.p R.j (fun q => (q = gs2 ∨ q = gl) ∨ q = gx)) := Lib.hid (U7.out.own (y8.mono (fun k _ hk => hk.imp (fun h => .inl (.inl h)) id)) (fun k hk => by
                         rcases hk with (hk | hk) | hk
                         · rcases hgs2 with h9 | h9
                           · exact .inl (.inl (.inl (hk.trans h9)))
                           · exact .inr ⟨by omega, by omega⟩
                         · exact .inl (.inl (.inr hk))
                         · exact .inl (.inr hk)))
                       have O8 := Lib.hid o13
                       have R8 := Lib.hid (R7.out.only y8 (fun b hb hn => by
                         have e1 := ownB1 hb
                         have e2 := (R7.out.lt gl rfl).2
                         have e3 := O7.out.ne R7.out (by decide)
                         rcases hn with hn | hn <;> omega))
                       have X8 := Lib.hid (X7.out.only y8 (fun b hb hn => by
                         have e1 := ownB1 hb
                         have e2 := (X7.out.lt gx rfl).2
                         have e3 := O7.out.ne X7.out (by decide)
                         rcases hn with hn | hn <;> omega))
                       have N13 := Lib.hid hn13
                       have N13a : n13 ≤ 22 := by omega
                       have N13b : 1 ≤ n13 := by omega
                       clear o13 gr13 ob13 y8 hgs2 hlt8 hn13))
                  go_wp2_with fail
                  go_roundw
                  case rel => exact ⟨k + 1, by omega, (by first | go_num | (congr 1; omega) | (congr 2; omega)), .inr ⟨R.p.m, OFF.out, ns - 1, n13, c13, gs2, gl, cl, gx, c12, H, putH H (chs L), _, rfl, rfl, by omega, U8.out.disk.less (fun q hq => hq.elim (fun h => .inl (.inl h)) (fun h => h.elim (fun h => .inl (.inr h)) .inr)), PWX.out, AFN.out.more (by omega) (fun f hf => hf.elim (fun h => .inl ⟨T, h.more (by omega)⟩) (fun h => .inr ⟨T + 1, h.more (by omega)⟩)), O8.out, by rw [List.getElem?_append_left (by rw [VL.out]; omega)]; exact QV.out, R8.out, .inr ⟨by have := N13.out; omega, by rw [show ns - 1 + 1 = ns by omega, List.getElem?_append_right (by rw [VL.out]; omega), VL.out]; simp, X8.out⟩⟩⟩
                  case measure => simp [Go.RowKit.intOf]; omega
          · have hb2 : lb = false := by simpa using hb
            subst hb2
            clear hb
            go_wp2_with (first
              | (go_at_call 26; refine LGH.out.mono ?_; rintro e w3 ⟨rfl, b3⟩
                 have U3 := Lib.hid (U2.out.below b3)
                 clear b3))
            go_ret
            exact ⟨rfl, U3.out.up.bel⟩
        · go_wp2_with fail
          go_meet
          exact al.exs (by omega) (by omega)
      · have EX := Lib.hid ex
        have CD : Hid (Calls Try.prog 25 #[.pointer (some ⟨gd, 0, none⟩)] W1 (RetV2 W1 (.bool true))) := Lib.hid (by
          obtain ⟨d, ns, cs, gs, gl, cl, gy, cy, H, H', vs, e1, e2, h1, D, pw, af, _⟩ := ex
          have := D.dead af.1
          rwa [hoff] at this)
        clear ex
        by_cases hlt : k < n1
        · go_wp2_with (first
            | (go_at_call 25; refine CD.out.mono ?_; rintro e w2 ⟨rfl, b2⟩
               have E2 := Lib.hid (EX.out.below b2)
               clear b2))
          go_meet
          exact ⟨m, E2.out⟩
        · go_wp2_with fail
          go_meet
          exact ⟨m, EX.out⟩
  case rest =>
    obtain ⟨m, d, ns, cs, gs, gl, cl, gy, cy, H, H', vs, rfl, rfl, hns, D, pw, af, O, hv, R, hh⟩ := hcut
    obtain ⟨W2, rfl⟩ : ∃ W, W = wc := ⟨_, rfl⟩
    have hdn : d < ns := by rcases hh with h | h <;> omega
    have DD := Lib.hid D
    have CPW := Lib.hid (D.powerA af (by rw [pw]; decide) A4 n4 c4 z4 (fun S hS _ => HK4.out _ D.bel S hS) HC4.out (by have := HN.out; omega))
    have PW := Lib.hid pw
    have OO := Lib.hid O
    have RR := Lib.hid R
    have HV := Lib.hid hv
    have H2 := Lib.hid hh
    clear AL A5 B5 PW5 D pw af O R hv hh
    go_upto_region 33 with (first
      | (go_at_call 29; refine CPW.out.mono ?_; rintro e w3 ⟨rfl, ⟨m1, f1, b3, q3, cm3, r3, p3⟩, y3⟩
         have B3 := Lib.hid b3
         have Q3 := Lib.hid q3
         have CM3 := Lib.hid cm3
         have P3 : Hid (m1.powers = 1) := Lib.hid (by rw [p3, PW.out])
         have O3 := Lib.hid (OO.out.only y3 (fun b hb hn => hn (.inl (ownB1 hb))))
         have R3 := Lib.hid (RR.out.only y3 (fun b hb hn => hn (.inr (.inl (ownB1 hb)))))
         have K3 : Hid (∃ K T, Rec 72 3000 r T K f1 ∧ Sec w w3 d ns gy cy h vs K H) := Lib.hid (by
           rcases H2.out with ⟨e1, rfl⟩ | ⟨e1, e2, e3⟩
           · rcases r3 with ⟨T, hr⟩ | ⟨T, hr⟩
             · exact ⟨_, T, hr, .inl rfl⟩
             · exact ⟨_, T, hr, .inl rfl⟩
           · rcases r3 with ⟨T, hr⟩ | ⟨T, hr⟩
             · exact ⟨_, T, hr, .inl rfl⟩
             · exact ⟨_, T, hr, .inr ⟨e1, e2, e3.only y3 (fun b hb hn => hn (.inr (.inr (ownB1 hb))))⟩⟩)
         clear b3 q3 cm3 r3 p3 y3))
    clear CPW OO RR H2
    obtain ⟨K, T, hrec, hsec⟩ := K3.out
    have REC := Lib.hid hrec
    have SEC := Lib.hid hsec
    clear K3 hrec hsec
    go_wp2_with fail
    go_loopw [27] (fun i27 wr => ∃ (q V : Nat) (m : RM) (f : Nat → List UInt8) (T : Nat), q ≤ 2 ∧ i27 = .int .i64 (q : Int) ∧ V = 3000 + 73 * q ∧ OnB Z w wr gd 72 m (fun q => q = gs ∨ q = gl ∨ q = gy) ∧ QP ⟨m, 0⟩ 72 f V ∧ Calm m 72 ∧ Rec 72 V r T K f ∧ m.powers = 1 + q ∧ OwnV 48 wr w.heap.size (.slice (some ⟨gs, 0, none⟩) ns cs) vs ∧ OwnV 9 wr w.heap.size (.slice (some ⟨gl, 0, none⟩) h cl) (strs (hsL H h)) ∧ Sec w wr d ns gy cy h vs K H) (fun i27 _ => 2 - (Go.RowKit.intOf i27).toNat)
    case atStart => exact ⟨0, 3000, m1, f1, T, by omega, rfl, rfl, B3.out, Q3.out, CM3.out, REC.out, P3.out, O3.out, R3.out, SEC.out⟩
    case round =>
      clear B3 Q3 CM3 REC P3 O3 R3 SEC
      obtain ⟨q, V, m, f, T, hq, rfl, hV, qb, qq, qc, qr, qp, qo, ql, qs⟩ := hrel
      obtain ⟨W4, rfl⟩ : ∃ W, W = wr := ⟨_, rfl⟩
      have QB := Lib.hid qb
      have QQ := Lib.hid qq
      have QC := Lib.hid qc
      have QR := Lib.hid qr
      have QP' := Lib.hid qp
      have QO := Lib.hid qo
      have QL := Lib.hid ql
      have QS := Lib.hid qs
      clear qb qq qc qr qp qo ql qs
      by_cases hlt : q < 2
      · go_upto_region 37 with (first
          | (go_at_call 18; refine (CP5.out _).mono ?_; rintro e w5 ⟨⟨j5, hj5, rfl⟩, rfl⟩
             have CA := Lib.hid (QB.out.arm QQ.out.ok (j5 : Int) a6 (by omega) H6.out)
             have CO := Lib.hid (fun W (a : OnB Z w W gd 72 (m.armM (j5 : Int) a6) (fun q => q = gs ∨ q = gl ∨ q = gy)) => a.openA (QQ.out.arm (j5 : Int) a6 (by omega)) QC.out QR.out (by omega)))
          | (go_at_call 24; refine CA.out.mono ?_; rintro e w6 ⟨rfl, b6, y6⟩
             have O6 := Lib.hid (QO.out.only y6 (fun b hb hn => hn (.inl (ownB1 hb))))
             have L6 := Lib.hid (QL.out.only y6 (fun b hb hn => hn (.inr (.inl (ownB1 hb)))))
             have S6 := Lib.hid (QS.out.only y6 (fun hn => hn (.inr (.inr rfl))))
             have CO6 := Lib.hid (CO.out _ b6)
             clear b6 y6))
        clear CA CO hj5
        go_upto_region 38 with (first
          | (go_at_call 22; refine CO6.out.mono ?_; rintro e w7 ⟨⟨v1, v2, rfl⟩, ⟨m7, b7, a7, p7⟩, y7⟩
             have O7 := Lib.hid (O6.out.only y7 (fun b hb hn => hn (.inl (ownB1 hb))))
             have L7 := Lib.hid (L6.out.only y7 (fun b hb hn => hn (.inr (.inl (ownB1 hb)))))
             have S7 := Lib.hid (S6.out.only y7 (fun hn => hn (.inr (.inr rfl))))
             have P7 : Hid (m7.powers = 1 + q) := Lib.hid (p7.trans QP'.out)
             have CW := Lib.hid (b7.powerA a7 (by rw [P7.out]; omega) A7 n7 c7 z7 (fun S hS _ => HK7.out _ b7.bel S hS) HC7.out (by have := HN.out; omega))
             clear b7 a7 p7 y7))
        clear CO6 O6 L6 S6
        go_wp2_with (first
          | (go_at_call 29; refine CW.out.mono ?_; rintro e w8 ⟨rfl, ⟨m8, f8, b8, q8, c8, r8, p8⟩, y8⟩
             have B8 := Lib.hid b8
             have Q8 := Lib.hid q8
             have C8 := Lib.hid c8
             have REC8 := Lib.hid r8
             have P8 : Hid (m8.powers = 1 + (q + 1)) := Lib.hid (by rw [p8, P7.out]; omega)
             have O8 := Lib.hid (O7.out.only y8 (fun b hb hn => hn (.inl (ownB1 hb))))
             have L8 := Lib.hid (L7.out.only y8 (fun b hb hn => hn (.inr (.inl (ownB1 hb)))))
             have S8 := Lib.hid (S7.out.only y8 (fun hn => hn (.inr (.inr rfl))))
             clear b8 q8 c8 r8 p8 y8))
        go_roundw
        case rel => exact ⟨q + 1, V + 72 + 1, m8, f8, T, by omega, (by first | go_num | (congr 1; omega) | (congr 2; omega)), by omega, B8.out, Q8.out, C8.out, REC8.out, P8.out, O8.out, L8.out, S8.out⟩
        case measure => simp [Go.RowKit.intOf]; omega
      · have CO := QB.out.open_ (p := ⟨m, 0⟩) (QR.out.ds QQ.out QC.out) (by omega)
        have COH := Lib.hid CO
        clear CO
        go_upto_region 42 with (first
          | (go_at_call 22; refine COH.out.mono ?_; rintro e w5 ⟨g', gp', p', j', rfl, u5, s5, _, _, y5⟩
             have O5 := Lib.hid (QO.out.only y5 (fun b hb hn => hn (.inl (ownB1 hb))))
             have L5 := Lib.hid (QL.out.only y5 (fun b hb hn => hn (.inr (.inl (ownB1 hb)))))
             have S5 := Lib.hid (QS.out.only y5 (fun hn => hn (.inr (.inr rfl))))
             have HM := homes_all u5 s5 (by omega) (fun k hk => (u5.lt k hk).2)
             rw [HH.out] at HM
             have HMH := Lib.hid HM
             clear u5 s5 y5 HM))
        clear COH QB QQ QC QR QO QL QS
        go_upto_region 43 with (first
          | (go_at_call 23; refine HMH.out.mono ?_; rintro e w6 ⟨A6, c6, rfl, o6, u6, y6⟩
             have N6 := Lib.hid (o6.base (b2 := 0) (Nat.zero_le _))
             have BL6 : Hid (Below w.heap.size w w6) := Lib.hid u6.up.bel
             have O6 := Lib.hid (O5.out.only y6 (fun b hb hn => hn (.inl (ownB1 hb))))
             have L6 := Lib.hid (L5.out.only y6 (fun b hb hn => hn (.inr (.inl (ownB1 hb)))))
             have S6 := Lib.hid (S5.out.only y6 (fun hn => hn (.inr (.inr rfl))))
             clear o6 u6 y6))
        clear HMH O5 L5 S5
        go_wp2_with fail
        go_loopw [30] (fun i30 wr => ∃ q : Nat, q ≤ 1 ∧ i30 = .int .i64 ((d + q : Nat) : Int) ∧ (q = 1 → hsL K h ≠ hsL H h) ∧ OwnV 9 wr 0 (.slice A6 h c6) (strs (hsL K h)) ∧ OwnV 48 wr w.heap.size (.slice (some ⟨gs, 0, none⟩) ns cs) vs ∧ OwnV 9 wr w.heap.size (.slice (some ⟨gl, 0, none⟩) h cl) (strs (hsL H h)) ∧ Sec w wr d ns gy cy h vs K H ∧ Below w.heap.size w wr) (fun i30 _ => d + 2 - (Go.RowKit.intOf i30).toNat)
        case atStart => exact ⟨0, by omega, rfl, by omega, N6.out, O6.out, L6.out, S6.out, BL6.out⟩
        case round =>
          clear N6 O6 L6 S6 BL6
          obtain ⟨t0, ht0, rfl, hne, qn, qo, ql, qs, qbl⟩ := hrel
          obtain ⟨W9, rfl⟩ : ∃ W, W = wr := ⟨_, rfl⟩
          by_cases ht : t0 = 0
          · subst ht
            have k0 : W9.cell? ⟨gs, d, none⟩ = some (.slice (some ⟨gl, 0, none⟩) h cl) := by
              have := qo.src (by omega) d _ HV.out
              rwa [Addr.add_lit, Nat.zero_add] at this
            have QN := Lib.hid qn
            have QO2 := Lib.hid qo
            have QL2 := Lib.hid ql
            have QS2 := Lib.hid qs
            have QBL := Lib.hid qbl
            by_cases heq : hsL K h = hsL H h
            · have CAL := Lib.hid (alike_s (c := c6) (d := cl) qn.hasS ql.hasS (by omega) true (decide_eq_true heq))
              clear qn qo ql qs qbl heq hne
              go_wp2_with (first
                | (go_at_call 30; refine CAL.out.mono ?_; rintro e w9 ⟨rfl, b9⟩
                   have B9 := Lib.hid (QBL.out.trans (b9.mono QBL.out.size))
                   clear b9))
              go_ret
              exact ⟨rfl, B9.out⟩
            · have CAL := Lib.hid (alike_s (c := c6) (d := cl) qn.hasS ql.hasS (by omega) false (decide_eq_false heq))
              have NEQ := Lib.hid heq
              clear qn qo ql qs qbl heq hne
              go_wp2_with (first
                | (go_at_call 30; refine CAL.out.mono ?_; rintro e w9 ⟨rfl, b9⟩
                   have B9 := Lib.hid b9
                   clear b9))
              go_roundw
              case rel => exact ⟨1, by omega, (by first | go_num | (congr 1; omega) | (congr 2; omega)), fun _ => NEQ.out, QN.out.below B9.out, QO2.out.below B9.out, QL2.out.below B9.out, QS2.out.below B9.out, QBL.out.trans (B9.out.mono QBL.out.size)⟩
              case measure => simp [Go.RowKit.intOf]
          · obtain rfl : t0 = 1 := by omega
            rcases qs with hK | ⟨hn2, hv2, ow2⟩
            · exact absurd (by rw [hK]) (hne rfl)
            · have k0 : W9.cell? ⟨gs, d + 1, none⟩ = some (.slice (some ⟨gy, 0, none⟩) h cy) := by
                have := qo.src (by omega) (d + 1) _ hv2
                rwa [Addr.add_lit, Nat.zero_add] at this
              have hlt4 : d + 1 < ns := by omega
              have CAL := Lib.hid (alike_s (c := c6) (d := cy) qn.hasS ow2.hasS (by omega) true (decide_eq_true rfl))
              have QBL := Lib.hid qbl
              clear qn qo ql qbl hne hv2 ow2 hn2
              go_wp2_with (first
                | (go_at_call 30; refine CAL.out.mono ?_; rintro e w9 ⟨rfl, b9⟩
                   have B9 := Lib.hid (QBL.out.trans (b9.mono QBL.out.size))
                   clear b9))
              go_ret
              exact ⟨rfl, B9.out⟩
end Go.Proofs.Ytadagbkfemcgfaa
