/-
  Own work.
-/
import Derived.Test.YthoebjekkfhhgaaGreatCp9
import Derived.Test.YthoebjekkfhhgaaGreatJk
import Derived.Test.YthoebjekkfhhgaaGreatJl
set_option linter.unusedVariables false
set_option linter.unusedSimpArgs false
set_option maxRecDepth 100000
set_option maxHeartbeats 8000000
namespace Go.Proofs.YthoebjekkfhhgaaGreat
open Go.RowKit Go.Maps
section
variable {Z : DK} {w w' W W' : World} {g gd gp n : Nat} {S T : Nat -> Prop} {e : Int} {j : JM} {m : RM} {p : Pt}
theorem LeftJ.drewN {k : Nat} (d : Z.D w gd S n p.m) (h : JO w g gd gp n p.e j) : LeftJ Z w g gd gp n S p j (w.drewN k) :=
 LeftJ.below ⟨rfl, rfl, rfl, Nat.le_refl _, fun _ _ => rfl⟩ d h
theorem jck_any (h : JO w g gd gp n p.e j) (d : Z.D w gd S n p.m) (a : Apart w g gp S) (ok : p.m.Ok n) (hw : p.m.wrote <= 1073730000) (hc : chkE p j = 0) :
 Calls Tryz.prog 76 #[.pointer (some ⟨g, 0, none⟩)] w (fun en w' => en = .returned (.int .i64 (ckE p n j)) /\ LeftJ Z w g gd gp n S (ckP p n j) (ckJ p n j) w') := by
 have hfl := h.ok.fl
 by_cases hf : frK j.fresh (j.homes n) = []
 · have e1 : ckE p n j = 0 := by unfold ckE; rw [hfl, if_pos hf]
   have e2 : ckP p n j = p := by unfold ckP; rw [hfl, if_pos hf]
   have e3 : ckJ p n j = j := by unfold ckJ; rw [hfl, if_pos hf]
   rw [e1, e2, e3]
   refine (jck_none h d ok hc hf).mono ?_
   rintro en w' ⟨he, k, rfl⟩
   exact ⟨he, LeftJ.drewN d h⟩
 · by_cases hn : 4611686018427387904 <= j.k.num
   · have hx : j.k.num ≥ 4611686018427387904 \/ j.k.turn ≥ 4611686018427387904 := .inl hn
     have e1 : ckE p n j = 7 := by unfold ckE; rw [hfl, if_neg hf, if_pos hx]
     have e2 : ckP p n j = p := by unfold ckP; rw [hfl, if_neg hf, if_pos hx]
     have e3 : ckJ p n j = j := by unfold ckJ; rw [hfl, if_neg hf, if_pos hx]
     rw [e1, e2, e3]
     refine (jck_full1 h d ok hc hf hn).mono ?_
     rintro en w' ⟨he, k, rfl⟩
     exact ⟨he, LeftJ.drewN d h⟩
   · by_cases ht : 4611686018427387904 <= j.k.turn
     · have hx : j.k.num ≥ 4611686018427387904 \/ j.k.turn ≥ 4611686018427387904 := .inr ht
       have e1 : ckE p n j = 7 := by unfold ckE; rw [hfl, if_neg hf, if_pos hx]
       have e2 : ckP p n j = p := by unfold ckP; rw [hfl, if_neg hf, if_pos hx]
       have e3 : ckJ p n j = j := by unfold ckJ; rw [hfl, if_neg hf, if_pos hx]
       rw [e1, e2, e3]
       refine (jck_full2 h d ok hc hf (by omega) ht).mono ?_
       rintro en w' ⟨he, k, rfl⟩
       exact ⟨he, LeftJ.drewN d h⟩
     · have hx : ¬ (j.k.num ≥ 4611686018427387904 \/ j.k.turn ≥ 4611686018427387904) := by omega
       have e1 : ckE p n j = (cpP p n j).e := by unfold ckE; rw [hfl, if_neg hf, if_neg hx]
       have e2 : ckP p n j = cpP p n j := by unfold ckP; rw [hfl, if_neg hf, if_neg hx]
       have e3 : ckJ p n j = if (cpP p n j).e = 0 then j.clean else j := by unfold ckJ; rw [hfl, if_neg hf, if_neg hx]
       rw [e1, e2, e3]
       exact jck_go h d a ok hw hc hf (by omega) (by omega)
theorem ckP_ok (ok : p.m.Ok n) (h : j.Ok n) (n2 : n <= 4096) (hw : p.m.wrote <= 1073730000) : (ckP p n j).m.Ok n /\ (ckP p n j).m.wrote <= p.m.wrote + 4200 := by
 have hl := frK_len j.fresh j.fresh.length
 have hfl := h.fl
 have hh : j.homes n <= 4096 := by show n - 2 - j.k.ring <= 4096; omega
 unfold ckP
 split
 · exact ⟨ok, by omega⟩
 · split
   · exact ⟨ok, by omega⟩
   · have h1 := cpK_ok p n j ok (frK j.fresh j.fresh.length) (by omega)
     have h2 := Pt.fl_wrote (cpK p n j (frK j.fresh j.fresh.length)) n
     have h3 := Pt.fl_ok h1.1
     unfold cpP Pt.anchor
     have h4 := Pt.wr_wrote ((cpK p n j (frK j.fresh j.fresh.length)).fl n) n ((j.next.num % 2 : Nat) : Int) j.next.anc
     have h5 := Pt.fl_wrote (((cpK p n j (frK j.fresh j.fresh.length)).fl n).wr n ((j.next.num % 2 : Nat) : Int) j.next.anc) n
     exact ⟨Pt.fl_ok (Pt.wr_ok h3 (by omega) _ _), by omega⟩
theorem ckJ_k (p : Pt) (n : Nat) (j : JM) : (ckJ p n j).k.turn = j.k.turn /\ (ckJ p n j).k.ring = j.k.ring /\ ((ckJ p n j).used = j.used \/ (ckJ p n j).used = 0) := by
 unfold ckJ
 split
 · exact ⟨rfl, rfl, .inl rfl⟩
 · split
   · exact ⟨rfl, rfl, .inl rfl⟩
   · split
     · exact ⟨rfl, rfl, .inr rfl⟩
     · exact ⟨rfl, rfl, .inl rfl⟩
theorem jlist_closed (A : Option Addr) (nl cl : Nat) (h : JO w g gd gp n p.e j) (d : Z.D w gd S n p.m) (ok : p.m.Ok n) (hc : chkE p j ≠ 0) :
 Calls Tryz.prog 73 #[.pointer (some ⟨g, 0, none⟩), .slice A nl cl] w (RetV2 w (.int .i64 8)) := by
 have C := lH (jcheck_any h d ok)
 have h8 : chkE ⟨p.m, p.e⟩ j = 8 := by
  have h9 : chkE ⟨p.m, p.e⟩ j = if p.e ≠ 0 \/ p.m.powers ≠ j.lives then 8 else 0 := rfl
  rw [h9]
  split
  · rfl
  · rename_i hh
    exact absurd (show chkE p j = 0 by unfold chkE; rw [if_neg hh]) hc
 rw [h8] at C
 clear h d ok hc h8
 go_enter Tryz.func73, Tryz.ntmps73
 go_wp2_with (go_at_call 111; refine C.out.mono ?_; rintro en w1 ⟨rfl, k, rfl⟩)
 go_ret
 exact ⟨rfl, ⟨rfl, rfl, rfl, Nat.le_refl _, fun _ _ => rfl⟩⟩
def endE (p : Pt) (n : Nat) (j : JM) (l : List Pu) : Option Int :=
 if chkE p j ≠ 0 then some 8 else if lstE n j l ≠ 0 then some (lstE n j l) else if l = [] then some 0 else if j.k.turn ≥ 4611686018427387903 then some 7 else none
theorem jcommit_end (A : Option Addr) (nl cl : Nat) (l : List Pu) (h : JO w g gd gp n p.e j) (d : Z.D w gd S n p.m) (ok : p.m.Ok n) (hp : HasPu w A nl l) (hn : nl <= 1000) (hdl : ∀ x ∈ l, x.data.length <= 1073741824) (x : Int) (hx : endE p n j l = some x) :
 Calls Tryz.prog 41 #[.pointer (some ⟨g, 0, none⟩), .slice A nl cl] w (RetV2 w (.int .i64 x)) := by
 have hnl := hp.1
 have H := lH h
 by_cases h1 : chkE p j ≠ 0
 · have C := lH (jlist_closed A nl cl h d ok h1)
   have hx8 : x = 8 := by unfold endE at hx; rw [if_pos h1] at hx; injection hx with hx; exact hx.symm
   subst hx8
   clear hx h1 h d ok hp hdl hnl
   go_enter Tryz.func41, Tryz.ntmps41
   go_wp2_with (go_at_call 73; refine C.out.mono ?_; rintro en w1 ⟨rfl, b1⟩)
   go_ret
   exact ⟨rfl, b1⟩
 · have hc : chkE p j = 0 := Decidable.not_not.1 h1
   have C := lH (jlist_any A nl cl l h d ok hc hp hn hdl)
   by_cases h2 : lstE n j l ≠ 0
   · have hx8 : x = lstE n j l := by unfold endE at hx; rw [if_neg h1, if_pos h2] at hx; injection hx with hx; exact hx.symm
     obtain ⟨y, hy⟩ : ∃ y, lstE n j l = y := ⟨_, rfl⟩
     rw [hy] at C h2 hx8
     subst hx8
     have hb : (x != 0) = true := by rw [bne_iff_ne]; exact h2
     clear hx h1 h2 h d ok hp hdl hnl hc hy
     go_enter Tryz.func41, Tryz.ntmps41
     go_wp2_with (go_at_call 73; refine C.out.mono ?_; rintro en w1 ⟨rfl, b1⟩)
     go_ret
     exact ⟨rfl, b1⟩
   · have hl0 : lstE n j l = 0 := Decidable.not_not.1 h2
     rw [hl0] at C
     by_cases h3 : l = []
     · have hx8 : x = 0 := by unfold endE at hx; rw [if_neg h1, if_neg h2, if_pos h3] at hx; injection hx with hx; exact hx.symm
       subst hx8
       have hn0 : nl = 0 := by rw [hnl, h3]; rfl
       subst hn0
       clear hx h1 h2 h d ok hp hdl hnl hc hl0 h3
       go_enter Tryz.func41, Tryz.ntmps41
       go_wp2_with (go_at_call 73; refine C.out.mono ?_; rintro en w1 ⟨rfl, b1⟩)
       go_ret
       exact ⟨rfl, b1⟩
     · have h4 : j.k.turn ≥ 4611686018427387903 := by
        unfold endE at hx
        rw [if_neg h1, if_neg h2, if_neg h3] at hx
        split at hx
        · assumption
        · cases hx
       have hx8 : x = 7 := by unfold endE at hx; rw [if_neg h1, if_neg h2, if_neg h3, if_pos h4] at hx; injection hx with hx; exact hx.symm
       subst hx8
       have hn0 : ((nl : Int) == 0) = false := by
        rw [beq_eq_false_iff_ne]
        have : 0 < l.length := List.length_pos_iff.2 h3
        omega
       have h4' : (4611686018427387903 : Int) <= (j.k.turn : Int) := by omega
       clear hx h1 h2 h d ok hp hdl hnl hc hl0 h3 h4
       go_enter Tryz.func41, Tryz.ntmps41
       go_wp2_with (first
        | (go_at_call 73; refine C.out.mono ?_; rintro en w1 ⟨rfl, b1⟩; have c3 := (H.out.below b1).c3; have B1 := lH b1; clear b1))
       go_ret
       exact ⟨rfl, B1.out⟩
end
theorem lsE_ok (h : Nat) : ∀ (l : List Pu) (seen : List Int), lsE h seen l = 0 -> ∀ x ∈ l, 0 <= x.i /\ x.i < h /\ x.data.length = 512
 | [], _, _, x, hx => by cases hx
 | y :: r, seen, h0, x, hx => by
   rw [lsE] at h0
   split at h0
   · cases h0
   · rename_i h1
     split at h0
     · cases h0
     · rename_i h2
       rcases List.mem_cons.1 hx with rfl | hx
       · refine ⟨?_, ?_, Decidable.not_not.1 h2⟩
         · by_cases q : x.i < 0
           · exact absurd (.inr (.inl q)) h1
           · omega
         · by_cases q : (h : Int) <= x.i
           · exact absurd (.inr (.inr q)) h1
           · omega
       · exact lsE_ok h r _ h0 x hx
section
variable {Z : DK} {w w' W W' : World} {g gd gp n : Nat} {S T : Nat -> Prop} {e : Int} {j : JM} {m : RM} {p : Pt}
theorem lstE_ok {l : List Pu} (h : lstE n j l = 0) : (∀ x ∈ l, 0 <= x.i /\ x.i < (j.homes n : Int) /\ x.data.length = 512) /\ l.length <= 40 /\ l.length < j.k.ring := by
 unfold lstE at h
 by_cases h1 : lsE (j.homes n) [] l = 0
 · rw [if_neg (fun hh => hh h1)] at h
   refine ⟨lsE_ok _ l [] h1, ?_⟩
   split at h
   · cases h
   · omega
 · rw [if_pos h1] at h
   exact absurd h h1
theorem LeftJ.took {l : List Ch} (h : LeftJ Z w g gd gp n S p j W) (o : JO W' g gd gp n p.e (j.take l)) (y : Only (fun k => k = g \/ k = gp) W W') (a : Apart w g gp S) : LeftJ Z w g gd gp n S p (j.take l) W' := by
 obtain ⟨S', d', hs', hg', hp'⟩ := h.nog a.s1 a.s2 a.l1 a.l2
 exact ⟨⟨S', Z.only d' y (fun k hk hh => hh.elim (fun e => hg' (e ▸ hk)) (fun e => hp' (e ▸ hk))), hs'⟩, o, h.y.trans' y (fun k _ hk => .inr hk)⟩
theorem jcommit_room (A : Option Addr) (nl cl : Nat) (l : List Pu) (h : JO w g gd gp n p.e j) (d : Z.D w gd S n p.m) (a : Apart w g gp S) (ok : p.m.Ok n) (hw : p.m.wrote <= 1073730000) (hp : HasPu w A nl l) (hn : nl <= 1000) (hdl : ∀ x ∈ l, x.data.length <= 1073741824)
 (hc : chkE p j = 0) (hl : lstE n j l = 0) (h0 : l ≠ []) (ht : j.k.turn < 4611686018427387903) (hu : j.used <= j.k.ring) (hr : l.length + 1 <= j.k.ring - j.used) :
 Calls Tryz.prog 41 #[.pointer (some ⟨g, 0, none⟩), .slice A nl cl] w (fun en w' => en = .returned (.int .i64 (stP p n j.k (chs l)).e) /\ LeftJ Z w g gd gp n S (stP p n j.k (chs l)) (if (stP p n j.k (chs l)).e ≠ 0 then j else j.take (chs l)) w') := by
 have n2 := ok.n2
 have hnl := hp.1
 obtain ⟨hall, h40, hring⟩ := lstE_ok hl
 have C := lH (jlist_any A nl cl l h d ok hc hp hn hdl)
 rw [hl] at C
 have HPU := lH hp
 have H := lH h
 have D0 := lH d
 have AP := lH a
 have OK := lH ok
 have SL : Hid (∀ k, S k -> k < w.heap.size) := lH (fun k hk => Z.lt d k hk)
 have hcl : (chs l).length = l.length := by simp [chs]
 have HCL := lH hcl
 have HOKC : Hid (ChOk (chs l)) := lH (fun c hc => by
  unfold chs at hc
  obtain ⟨x, hx, rfl⟩ := List.mem_map.1 hc
  exact (hall x hx).2.2)
 have HHM : Hid (∀ c ∈ chs l, c.home < j.homes n) := lH (fun c hc => by
  unfold chs at hc
  obtain ⟨x, hx, rfl⟩ := List.mem_map.1 hc
  have := hall x hx
  show x.i.toNat < j.homes n
  omega)
 have CC : Hid (∀ W, Below w.heap.size w W -> Calls Tryz.prog 74 #[.slice A nl cl] W (RetC W (chs l))) := lH (fun W hW => changes_any A nl cl l W (hp.below hW) (fun x hx => ⟨(hall x hx).2.2, (hall x hx).1⟩) hn)
 have hpos : 0 < l.length := List.length_pos_iff.2 h0
 have hn0 : ((nl : Int) == 0) = false := by rw [beq_eq_false_iff_ne]; omega
 have ht4 : decide ((4611686018427387903 : Int) <= (j.k.turn : Int)) = false := decide_eq_false (by omega)
 have us := h.ok.us
 have r2 := h.ok.r2
 obtain ⟨L, hL⟩ : ∃ L, l.length = L := ⟨_, rfl⟩
 have hL0 : 0 < L := by omega
 have hL40 : L <= 40 := by omega
 have hfr : decide ((j.k.ring : Int) - (j.used : Int) < (L : Int) + 1) = false := decide_eq_false (by omega)
 have ew : IntKind.i64.wrap ((L : Int) + 1) = (L : Int) + 1 := by rw [IntKind.wrap_i64]; omega
 obtain ⟨P, hP⟩ : ∃ P, stP p n j.k (chs l) = P := ⟨_, rfl⟩
 obtain ⟨J', hJ⟩ : ∃ J', (if P.e ≠ 0 then j else j.take (chs l)) = J' := ⟨_, rfl⟩
 obtain ⟨E, hE⟩ : ∃ E, P.e = E := ⟨_, rfl⟩
 rw [hP, hJ, hE]
 have HP := lH hP
 have HJ := lH hJ
 have HE := lH hE
 have HL := lH hL
 clear h d a ok hc hl h0 hp hdl hcl hall hP hJ hE hL hnl
 go_enter Tryz.func41, Tryz.ntmps41
 go_upto_region 11 with (first
  | (go_at_call 73; refine C.out.mono ?_; rintro en w1 ⟨rfl, b1⟩; have c3 := (H.out.below b1).c3; have B1 := lH b1; clear b1)
  | (go_at_call 74; refine (CC.out _ B1.out).mono ?_; rintro en w2 ⟨A2, q2, c2, rfl, own2, b2⟩
     have B2 := lH (B1.out.trans (b2.mono B1.out.size))
     have hq2 : q2 = L := by rw [own2.len, HCL.out, HL.out]
     subst hq2
     obtain ⟨gl, rfl, -, hgl, hcb⟩ := own2.row (by omega)
     have hgl2 : w.heap.size <= gl := Nat.le_trans B1.out.size hgl
     have CBq := lH hcb
     have CF := lH (jfree_any (H.out.below B2.out))
     clear own2 b2 hcb hgl)
  | (go_at_call 75; refine CF.out.mono ?_; rintro en w3 ⟨rfl, kk, rfl⟩))
 have bz : Below w.heap.size w (w2.drewN kk) := ⟨B2.out.os, B2.out.tape, B2.out.output, B2.out.size, B2.out.block⟩
 have oz := H.out.below bz
 have dz : Z.D (w2.drewN kk) gd S n p.m := Z.only D0.out (Only.of_below (S := fun _ => False) bz (Nat.le_refl _)) (fun _ _ h => h)
 have cz : CB (w2.drewN kk) gl (chs l) := CBq.out
 have az : Apart (w2.drewN kk) g gp S := ⟨AP.out.s1, AP.out.s2, oz.lt, oz.ltp, AP.out.ne⟩
 have ngl : gl ≠ g /\ gl ≠ gp /\ ¬ S gl := ⟨by have := AP.out.l1; omega, by have := AP.out.l2; omega, fun hh => by have := SL.out _ hh; omega⟩
 have CS := lH (jstore_any gl q2 c2 (chs l) dz oz az OK.out (by omega) cz HOKC.out (by rw [HCL.out, HL.out]) (by omega) (fun c hc => by have := HHM.out c hc; have := oz.sizeH n2; omega) ngl.1 ngl.2.1 ngl.2.2 (by omega))
 have BZ := lH bz
 have NG := lH ngl
 have CZ := lH cz
 have AZ := lH az
 rw [HP.out] at CS
 clear bz oz dz cz az ngl
 go_upto_region 12 with (first
  | (go_at_call 77; refine CS.out.mono ?_; rintro en w5 ⟨rfl, l5⟩
     have k1 := l5.o.c1
     rw [HE.out] at k1
     have L5 := lH l5
     clear l5))
 have L5w : Hid (LeftJ Z w g gd gp n S P j w5) := lH (LeftJ.from BZ.out L5.out)
 have cz5 := CZ.out.only L5.out.y (fun hh => hh.elim NG.out.2.2 (fun hh => hh.elim NG.out.1 NG.out.2.1))
 have CT := lH (jtake_any gl q2 c2 (chs l) L5.out.o n2 cz5 HOKC.out (by rw [HCL.out, HL.out]) (by omega) HHM.out (by omega) (by omega) NG.out.1 NG.out.2.1)
 clear cz5
 by_cases hE0 : E = 0
 · have hE1 : (E != 0) = false := by rw [hE0]; rfl
   have EJ : Hid (J' = j.take (chs l)) := lH (by rw [<- HJ.out, HE.out, if_neg (fun hh => hh hE0)])
   have E0 := lH hE0
   clear hE0
   go_wp2_with (first
    | (go_at_call 78; refine CT.out.mono ?_; rintro en w6 ⟨rfl, o6, y6⟩
       have L6 := lH (L5w.out.took o6 y6 AP.out)
       clear o6 y6))
   go_ret
   rw [EJ.out]
   refine ⟨?_, L6.out⟩
   show Ending.returned (.int .i64 0) = .returned (.int .i64 E)
   rw [E0.out]
 · have hE1 : (E != 0) = true := by rw [bne_iff_ne]; exact hE0
   have EJ : Hid (J' = j) := lH (by rw [<- HJ.out, HE.out, if_pos hE0])
   clear hE0
   go_wp2_with fail
   go_ret
   rw [EJ.out]
   exact ⟨rfl, L5w.out⟩
theorem jcommit_full (A : Option Addr) (nl cl : Nat) (l : List Pu) (h : JO w g gd gp n p.e j) (d : Z.D w gd S n p.m) (a : Apart w g gp S) (ok : p.m.Ok n) (hw : p.m.wrote <= 1073720000) (hp : HasPu w A nl l) (hn : nl <= 1000) (hdl : ∀ x ∈ l, x.data.length <= 1073741824)
 (hc : chkE p j = 0) (hl : lstE n j l = 0) (h0 : l ≠ []) (ht : j.k.turn < 4611686018427387903) (hu : j.used <= j.k.ring) (hr : j.k.ring - j.used < l.length + 1) :
 Calls Tryz.prog 41 #[.pointer (some ⟨g, 0, none⟩), .slice A nl cl] w (fun en w' => en = .returned (.int .i64 (if ckE p n j ≠ 0 then ckE p n j else (stP (ckP p n j) n (ckJ p n j).k (chs l)).e)) /\ LeftJ Z w g gd gp n S (if ckE p n j ≠ 0 then ckP p n j else stP (ckP p n j) n (ckJ p n j).k (chs l)) (if ckE p n j ≠ 0 then ckJ p n j else if (stP (ckP p n j) n (ckJ p n j).k (chs l)).e ≠ 0 then ckJ p n j else (ckJ p n j).take (chs l)) w') := by
 have n2 := ok.n2
 have hnl := hp.1
 obtain ⟨hall, h40, hring⟩ := lstE_ok hl
 have C := lH (jlist_any A nl cl l h d ok hc hp hn hdl)
 rw [hl] at C
 have HPU := lH hp
 have H := lH h
 have D0 := lH d
 have AP := lH a
 have OK := lH ok
 have SL : Hid (∀ k, S k -> k < w.heap.size) := lH (fun k hk => Z.lt d k hk)
 have hcl : (chs l).length = l.length := by simp [chs]
 have HCL := lH hcl
 have HOKC : Hid (ChOk (chs l)) := lH (fun c hc => by
  unfold chs at hc
  obtain ⟨x, hx, rfl⟩ := List.mem_map.1 hc
  exact (hall x hx).2.2)
 have HHM : Hid (∀ c ∈ chs l, c.home < j.homes n) := lH (fun c hc => by
  unfold chs at hc
  obtain ⟨x, hx, rfl⟩ := List.mem_map.1 hc
  have := hall x hx
  show x.i.toNat < j.homes n
  omega)
 have CC : Hid (∀ W, Below w.heap.size w W -> Calls Tryz.prog 74 #[.slice A nl cl] W (RetC W (chs l))) := lH (fun W hW => changes_any A nl cl l W (hp.below hW) (fun x hx => ⟨(hall x hx).2.2, (hall x hx).1⟩) hn)
 have hpos : 0 < l.length := List.length_pos_iff.2 h0
 have hn0 : ((nl : Int) == 0) = false := by rw [beq_eq_false_iff_ne]; omega
 have ht4 : decide ((4611686018427387903 : Int) <= (j.k.turn : Int)) = false := decide_eq_false (by omega)
 have us := h.ok.us
 have r2 := h.ok.r2
 obtain ⟨L, hL⟩ : ∃ L, l.length = L := ⟨_, rfl⟩
 have hL0 : 0 < L := by omega
 have hL40 : L <= 40 := by omega
 have hfr : (j.k.ring : Int) - (j.used : Int) < (L : Int) + 1 := by omega
 have ew : IntKind.i64.wrap ((L : Int) + 1) = (L : Int) + 1 := by rw [IntKind.wrap_i64]; omega
 have POK := lH (ckP_ok (p := p) (j := j) ok h.ok n2 (by omega))
 have KJ := lH (ckJ_k p n j)
 have HC := lH hc
 obtain ⟨CE, hCE⟩ : ∃ CE, ckE p n j = CE := ⟨_, rfl⟩
 obtain ⟨P1, hP1⟩ : ∃ P1, ckP p n j = P1 := ⟨_, rfl⟩
 obtain ⟨J1, hJ1⟩ : ∃ J1, ckJ p n j = J1 := ⟨_, rfl⟩
 rw [hCE, hP1, hJ1]
 rw [hP1] at POK
 rw [hJ1] at KJ
 obtain ⟨P, hP⟩ : ∃ P, stP P1 n J1.k (chs l) = P := ⟨_, rfl⟩
 rw [hP]
 obtain ⟨R1, hR1⟩ : ∃ R1, (if CE ≠ 0 then CE else P.e) = R1 := ⟨_, rfl⟩
 obtain ⟨R2, hR2⟩ : ∃ R2, (if CE ≠ 0 then P1 else P) = R2 := ⟨_, rfl⟩
 obtain ⟨R3, hR3⟩ : ∃ R3, (if CE ≠ 0 then J1 else if P.e ≠ 0 then J1 else J1.take (chs l)) = R3 := ⟨_, rfl⟩
 rw [hR1, hR2, hR3]
 have CK : Hid (∀ W, Below w.heap.size w W -> Calls Tryz.prog 76 #[.pointer (some ⟨g, 0, none⟩)] W (fun en w' => en = .returned (.int .i64 CE) /\ LeftJ Z W g gd gp n S P1 J1 w')) := lH (fun W hW => by
  have oz := h.below hW
  have := jck_any oz (Z.only d (Only.of_below (S := fun _ => False) hW (Nat.le_refl _)) (fun _ _ h => h)) (⟨a.s1, a.s2, oz.lt, oz.ltp, a.ne⟩ : Apart W g gp S) ok (by omega) hc
  rwa [hCE, hP1, hJ1] at this)
 have HP := lH hP
 have H1 := lH hR1
 have H2 := lH hR2
 have H3 := lH hR3
 have HL := lH hL
 clear h d a ok hc hl h0 hp hdl hcl hall hP hR1 hR2 hR3 hL hnl hCE hP1 hJ1
 go_enter Tryz.func41, Tryz.ntmps41
 go_upto_region 8 with (first
  | (go_at_call 73; refine C.out.mono ?_; rintro en w1 ⟨rfl, b1⟩; have c3 := (H.out.below b1).c3; have B1 := lH b1; clear b1)
  | (go_at_call 74; refine (CC.out _ B1.out).mono ?_; rintro en w2 ⟨A2, q2, c2, rfl, own2, b2⟩
     have B2 := lH (B1.out.trans (b2.mono B1.out.size))
     have hq2 : q2 = L := by rw [own2.len, HCL.out, HL.out]
     subst hq2
     obtain ⟨gl, rfl, -, hgl, hcb⟩ := own2.row (by omega)
     have hgl2 : w.heap.size <= gl := Nat.le_trans B1.out.size hgl
     have CBq := lH hcb
     have CF := lH (jfree_any (H.out.below B2.out))
     clear own2 b2 hcb hgl)
  | (go_at_call 75; refine CF.out.mono ?_; rintro en w3 ⟨rfl, kk, rfl⟩))
 have bz : Below w.heap.size w (w2.drewN kk) := ⟨B2.out.os, B2.out.tape, B2.out.output, B2.out.size, B2.out.block⟩
 have cz : CB (w2.drewN kk) gl (chs l) := CBq.out
 have BZ := lH bz
 have CZ := lH cz
 have ngl : gl ≠ g /\ gl ≠ gp /\ ¬ S gl := ⟨by have := AP.out.l1; omega, by have := AP.out.l2; omega, fun hh => by have := SL.out _ hh; omega⟩
 have NG := lH ngl
 have hglz : gl < (w2.drewN kk).heap.size := cz.lt
 clear bz cz ngl
 go_upto_region 9 with (first
  | (go_at_call 76; refine (CK.out _ BZ.out).mono ?_; rintro en w4 ⟨rfl, l4⟩
     have L4 := lH l4
     clear l4))
 have L4w : Hid (LeftJ Z w g gd gp n S P1 J1 w4) := lH (LeftJ.from BZ.out L4.out)
 by_cases hC0 : CE = 0
 · have hC1 : (CE != 0) = false := by rw [hC0]; rfl
   have E1 : Hid (R1 = P.e) := lH (by rw [<- H1.out, if_neg (fun hh => hh hC0)])
   have E2 : Hid (R2 = P) := lH (by rw [<- H2.out, if_neg (fun hh => hh hC0)])
   have E3 : Hid (R3 = if P.e ≠ 0 then J1 else J1.take (chs l)) := lH (by rw [<- H3.out, if_neg (fun hh => hh hC0)])
   clear hC0
   obtain ⟨S', d', hs', hg', hp'⟩ := L4.out.nog AP.out.s1 AP.out.s2 (Nat.lt_of_lt_of_le AP.out.l1 BZ.out.size) (Nat.lt_of_lt_of_le AP.out.l2 BZ.out.size)
   have o4 := L4.out.o
   have a4 : Apart w4 g gp S' := ⟨hg', hp', o4.lt, o4.ltp, AP.out.ne⟩
   have ns : ¬ S' gl := fun hh => (hs' gl hh).elim NG.out.2.2 (fun h1 => by omega)
   have c4 := CZ.out.only L4.out.y (fun hh => hh.elim NG.out.2.2 (fun hh => hh.elim NG.out.1 NG.out.2.1))
   have hk := KJ.out
   have hho : J1.homes n = j.homes n := by show n - 2 - J1.k.ring = n - 2 - j.k.ring; rw [hk.2.1]
   have HHM1 : Hid (∀ c ∈ chs l, c.home < J1.homes n) := lH (fun c hc => by rw [hho]; exact HHM.out c hc)
   have CS := lH (jstore_any gl q2 c2 (chs l) d' o4 a4 POK.out.1 (by have := POK.out.2; omega) c4 HOKC.out (by rw [HCL.out, HL.out]) (by omega) (fun c hc => by have := HHM1.out c hc; have := o4.sizeH n2; omega) NG.out.1 NG.out.2.1 ns (by rw [hk.1]; omega))
   rw [HP.out] at CS
   have NS := lH ns
   have C4 := lH c4
   have HSx := lH hs'
   have A4 := lH a4
   have hus1 : J1.used <= 1073740000 := by rcases hk.2.2 with h1 | h1 <;> omega
   have htn1 : J1.k.turn < 9223372036854775000 := by rw [hk.1]; omega
   clear d' hs' hg' hp' o4 a4 ns c4 hk hho
   obtain ⟨E, hE⟩ : ∃ E, P.e = E := ⟨_, rfl⟩
   have HE := lH hE
   clear hE
   go_upto_region 12 with (first
    | (go_at_call 77; refine CS.out.mono ?_; rintro en w5 ⟨rfl, l5⟩
       have k1 := l5.o.c1
       rw [HE.out] at k1
       have L5 := lH l5
       clear l5))
   have L5w : Hid (LeftJ Z w g gd gp n S P J1 w5) := lH (LeftJ.from BZ.out (L4.out.trans HSx.out L5.out))
   have cz5 := C4.out.only L5.out.y (fun hh => hh.elim NS.out (fun hh => hh.elim NG.out.1 NG.out.2.1))
   have CT := lH (jtake_any gl q2 c2 (chs l) L5.out.o n2 cz5 HOKC.out (by rw [HCL.out, HL.out]) (by omega) HHM1.out hus1 htn1 NG.out.1 NG.out.2.1)
   clear cz5
   by_cases hE0 : E = 0
   · have hE1 : (E != 0) = false := by rw [hE0]; rfl
     have EJ : Hid (R3 = J1.take (chs l)) := lH (by rw [E3.out, HE.out, if_neg (fun hh => hh hE0)])
     have E0 := lH hE0
     clear hE0
     go_wp2_with (first
      | (go_at_call 78; refine CT.out.mono ?_; rintro en w6 ⟨rfl, o6, y6⟩
         have L6 := lH (L5w.out.took o6 y6 AP.out)
         clear o6 y6))
     go_ret
     rw [E1.out, E2.out, EJ.out]
     refine ⟨?_, L6.out⟩
     show Ending.returned (.int .i64 0) = .returned (.int .i64 P.e)
     rw [HE.out, E0.out]
   · have hE1 : (E != 0) = true := by rw [bne_iff_ne]; exact hE0
     have EJ : Hid (R3 = J1) := lH (by rw [E3.out, HE.out, if_pos hE0])
     clear hE0
     go_wp2_with fail
     go_ret
     rw [E1.out, E2.out, EJ.out]
     refine ⟨?_, L5w.out⟩
     show Ending.returned (.int .i64 E) = .returned (.int .i64 P.e)
     rw [HE.out]
 · have hC1 : (CE != 0) = true := by rw [bne_iff_ne]; exact hC0
   have E1 : Hid (R1 = CE) := lH (by rw [<- H1.out, if_pos hC0])
   have E2 : Hid (R2 = P1) := lH (by rw [<- H2.out, if_pos hC0])
   have E3 : Hid (R3 = J1) := lH (by rw [<- H3.out, if_pos hC0])
   clear hC0
   go_wp2_with fail
   go_ret
   rw [E1.out, E2.out, E3.out]
   exact ⟨rfl, L4w.out⟩
theorem jcommit_any (A : Option Addr) (nl cl : Nat) (l : List Pu) (h : JO w g gd gp n p.e j) (d : Z.D w gd S n p.m) (a : Apart w g gp S) (ok : p.m.Ok n) (hw : p.m.wrote <= 1073720000) (hp : HasPu w A nl l) (hn : nl <= 1000) (hdl : ∀ x ∈ l, x.data.length <= 1073741824) (hu : j.used <= j.k.ring) :
 Calls Tryz.prog 41 #[.pointer (some ⟨g, 0, none⟩), .slice A nl cl] w (fun en w' => en = .returned (.int .i64 (cmt p n j l).e) /\ LeftJ Z w g gd gp n S (cmt p n j l).p (cmt p n j l).j w') := by
 have early : ∀ x, endE p n j l = some x -> cmt p n j l = ⟨x, p, j⟩ -> Calls Tryz.prog 41 #[.pointer (some ⟨g, 0, none⟩), .slice A nl cl] w (fun en w' => en = .returned (.int .i64 (cmt p n j l).e) /\ LeftJ Z w g gd gp n S (cmt p n j l).p (cmt p n j l).j w') := fun x hx hcm => by
  rw [hcm]
  refine (jcommit_end A nl cl l h d ok hp hn hdl x hx).mono ?_
  rintro en w' ⟨he, hb⟩
  exact ⟨he, LeftJ.below hb d h⟩
 by_cases h1 : chkE p j ≠ 0
 · exact early 8 (by unfold endE; rw [if_pos h1]) (by unfold cmt; rw [if_pos h1])
 · by_cases h2 : lstE n j l ≠ 0
   · exact early (lstE n j l) (by unfold endE; rw [if_neg h1, if_pos h2]) (by unfold cmt; rw [if_neg h1, if_pos h2])
   · by_cases h3 : l = []
     · exact early 0 (by unfold endE; rw [if_neg h1, if_neg h2, if_pos h3]) (by unfold cmt; rw [if_neg h1, if_neg h2, if_pos h3])
     · by_cases h4 : j.k.turn ≥ 4611686018427387903
       · exact early 7 (by unfold endE; rw [if_neg h1, if_neg h2, if_neg h3, if_pos h4]) (by unfold cmt; rw [if_neg h1, if_neg h2, if_neg h3, if_pos h4])
       · have hc : chkE p j = 0 := Decidable.not_not.1 h1
         have hl : lstE n j l = 0 := Decidable.not_not.1 h2
         by_cases h5 : l.length + 1 > j.k.ring - j.used
         · refine (jcommit_full A nl cl l h d a ok hw hp hn hdl hc hl h3 (by omega) hu (by omega)).mono ?_
           rintro en w' ⟨he, hl'⟩
           have e0 : cmt p n j l = ⟨if ckE p n j ≠ 0 then ckE p n j else (stP (ckP p n j) n (ckJ p n j).k (chs l)).e, if ckE p n j ≠ 0 then ckP p n j else stP (ckP p n j) n (ckJ p n j).k (chs l), if ckE p n j ≠ 0 then ckJ p n j else if (stP (ckP p n j) n (ckJ p n j).k (chs l)).e ≠ 0 then ckJ p n j else (ckJ p n j).take (chs l)⟩ := by
            unfold cmt
            rw [if_neg h1, if_neg h2, if_neg h3, if_neg h4, if_pos h5]
            by_cases c1 : ckE p n j ≠ 0
            · rw [if_pos c1, if_pos c1, if_pos c1, if_pos c1]
            · rw [if_neg c1, if_neg c1, if_neg c1, if_neg c1]
              by_cases c2 : (stP (ckP p n j) n (ckJ p n j).k (chs l)).e ≠ 0
              · rw [if_pos c2, if_pos c2]
              · rw [if_neg c2, if_neg c2, Decidable.not_not.1 c2]
           rw [e0]
           exact ⟨he, hl'⟩
         · refine (jcommit_room A nl cl l h d a ok (by omega) hp hn hdl hc hl h3 (by omega) hu (by omega)).mono ?_
           rintro en w' ⟨he, hl'⟩
           have e0 : cmt p n j l = ⟨(stP p n j.k (chs l)).e, stP p n j.k (chs l), if (stP p n j.k (chs l)).e ≠ 0 then j else j.take (chs l)⟩ := by
            unfold cmt
            rw [if_neg h1, if_neg h2, if_neg h3, if_neg h4, if_neg h5]
            by_cases c2 : (stP p n j.k (chs l)).e ≠ 0
            · rw [if_pos c2, if_pos c2]
            · rw [if_neg c2, if_neg c2, Decidable.not_not.1 c2]
           rw [e0]
           exact ⟨he, hl'⟩
end
end Go.Proofs.YthoebjekkfhhgaaGreat
