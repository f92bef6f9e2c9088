/-
  Own work. The journal: load.
-/
import Derived.Test.YtadagbkfemcgfaaGreatJld
namespace Go.Proofs.YtadagbkfemcgfaaGreat
open Go.RowKit Go.Maps
set_option linter.unusedVariables false
set_option linter.unusedSimpArgs false

section
variable {Z : DK} {w w' W W' : World} {g gd gp n : Nat} {S T : Nat → Prop} {e : Int} {j : JM} {m : RM} {p : Pt}
/-- What load hands back: a row of its own. -/
def RetLd (Z : DK) (w : World) (g gd gp n : Nat) (S : Nat → Prop) (l : List Ch) (p : Pt) (j : JM) (e : Ending) (w' : World) : Prop :=
  ∃ A nl cl, e = .returned (.slice A nl cl) ∧ nl = l.length ∧ (nl ≠ 0 → ∃ gl, A = some ⟨gl, 0, none⟩ ∧ CB w' gl l ∧ w.heap.size ≤ gl) ∧ LeftJ Z w g gd gp n S p j w'
set_option maxRecDepth 100000 in
set_option maxHeartbeats 2000000 in
theorem jload_nil (h : JO w g gd gp n p.e j) (d : Z.D w gd S n p.m) (ok : p.m.Ok n) (he : p.e = 0) (live : p.m.readE n 0 = 0) (a : Apart w g gp S) (hbad : tagOf (lst (p.m.readS n (j.k.inRing 0 : Nat))) ≠ 2 * j.k.turn + 1 ∨ 40 < num (sub (lst (p.m.readS n (j.k.inRing 0 : Nat))) 8 2) ∨ j.k.ring ≤ num (sub (lst (p.m.readS n (j.k.inRing 0 : Nat))) 8 2)) :
    Calls Tryz.prog 54 #[.pointer (some ⟨g, 0, none⟩)] w (RetLd Z w g gd gp n S [] p j) := by
  have n2 := ok.n2
  have fit := h.ok.fit
  have r1 := h.ok.r1
  have r2 := h.ok.r2
  have r3 := h.ok.r3
  have ps := h.ok.ps
  obtain ⟨x, hx⟩ : ∃ x, j.k.inRing 0 = x := ⟨_, rfl⟩
  rw [hx] at hbad
  have hxn : x < n := by rw [← hx]; have hlt := Nat.mod_lt (j.k.pos + 0) (show 0 < j.k.ring by omega); unfold Mk.inRing; try unfold Mk.ahead; omega
  have CI : Hid (∀ W, Calls Tryz.prog 75 #[.agg (mkC j.k), .int .i64 0] W (RetV2 W (.int .i64 (x : Int)))) := Lib.hid (fun W => by have := inRing_any j.k 0 W fit (by omega) (by omega); rwa [hx, show ((0 : Nat) : Int) = 0 from rfl] at this)
  have hrx : p.m.readE n (x : Int) = 0 := RM.readE_all live (by omega) (by omega)
  obtain ⟨s, hs⟩ : ∃ s, lst (p.m.readS n (x : Int)) = s := ⟨_, rfl⟩
  rw [hs] at hbad
  have hsl : s.length = 512 := by rw [← hs, ← Pt.rdS_ok hrx he]; exact p.rdS_len ok _
  have CR : Hid (∀ W0 W, Apart W0 g gp S → LeftJ Z W0 g gd gp n S p j W → Calls Tryz.prog 67 #[.pointer (some ⟨g, 0, none⟩), .int .i64 (x : Int)] W (fun en W' => en = .returned (.agg (cellsB s).toArray) ∧ LeftJ Z W0 g gd gp n S p j W')) := Lib.hid (fun W0 W hA hL => by
    have := jrd_on hA hL ok (x : Int) (by omega)
    rwa [Pt.rdS_ok hrx he, hs, Pt.rd_ok hrx he] at this)
  have CRG : Hid (∀ gm s0 W, LeftK Z w g gd gp n S p j gm s0 W → Calls Tryz.prog 67 #[.pointer (some ⟨g, 0, none⟩), .int .i64 (x : Int)] W (fun en W' => en = .returned (.agg (cellsB s).toArray) ∧ LeftK Z w g gd gp n S p j gm s0 W')) := Lib.hid (fun gm s0 W hL => by
    obtain ⟨S2, d2, hs2, o2, y2, h1, h2, h3⟩ := hL
    have hg2 : ¬ S2 g := fun hh => (hs2 g hh).elim a.s1 (by have := a.l1; omega)
    have hp2 : ¬ S2 gp := fun hh => (hs2 gp hh).elim a.s2 (by have := a.l2; omega)
    have := jrd_on (S := S2) (w := W) ⟨hg2, hp2, o2.lt, o2.ltp, a.ne⟩ (LeftJ.same d2 o2) ok (x : Int) (by omega)
    rw [Pt.rdS_ok hrx he, hs, Pt.rd_ok hrx he] at this
    refine this.mono ?_
    rintro en W' ⟨rfl, l⟩
    obtain ⟨⟨S3, d3, hs3⟩, o3, y3⟩ := l
    have hgl := a.l1
    have hpl := a.l2
    have hbl := h2.lt
    refine ⟨rfl, S3, d3, fun k hk => ?_, o3, y2.trans' y3 (fun k hk hh => ?_), fun hh => ?_, h2.keepO y3 (fun hh => ?_), h3⟩
    · rcases hs3 k hk with q | q
      · exact hs2 k q
      · exact .inr (Nat.le_trans y2.size q)
    · rcases hh with q | q
      · rcases hs2 k q with q2 | q2
        · exact .inl q2
        · omega
      · exact .inr q
    · rcases hs3 _ hh with q | q
      · exact h1 q
      · omega
    · rcases hh with q | q | q
      · exact h1 q
      · omega
      · omega)
  have L0 : Hid (LeftJ Z w g gd gp n S p j w) := Lib.hid (LeftJ.same d h)
  have AP := Lib.hid a
  have HLT : Hid (∀ k, S k → k < w.heap.size) := Lib.hid (fun k hk => Z.lt d k hk)
  have GLT := Lib.hid h.lt
  have GPT := Lib.hid h.ltp
  have SN := Lib.hid hsl
  obtain ⟨c, hc⟩ : ∃ c, num (sub s 8 2) = c := ⟨_, rfl⟩
  have hc2 : c < 65536 := by rw [← hc]; have := num_lt (sub s 8 2); rw [sub_len (by omega)] at this; omega
  obtain ⟨tg, htg⟩ : ∃ c, tagOf s = c := ⟨_, rfl⟩
  have htn := h.ok.tn
  have CN : Hid (∀ gm W, Bw W gm 98 s → Calls Tryz.prog 76 #[.pointer (some ⟨gm, 0, none⟩), .int .i64 8, .int .i64 2] W (RetW W (.int .u64 (c : Int)))) := Lib.hid (fun gm W hW => by have := snum_any 8 2 hW hsl (by omega) (by omega) (by omega); rwa [hc] at this)
  have CT : Hid (∀ gm W, Bw W gm 98 s → Calls Tryz.prog 77 #[.pointer (some ⟨gm, 0, none⟩)] W (RetW W (.int .u64 (tg : Int)))) := Lib.hid (fun gm W hW => by have := stag_any hW hsl; rwa [htg] at this)
  obtain ⟨ht, hht⟩ : ∃ x, 2 * j.k.turn + 1 = x := ⟨_, rfl⟩
  have CHT : Hid (∀ W, Calls Tryz.prog 78 #[.int .u64 (j.k.turn : Int)] W (RetW W (.int .u64 (ht : Int)))) := Lib.hid (fun W => by have := hdrTag_any j.k.turn W htn; rwa [hht] at this)
  rw [hc, htg, hht] at hbad
  have er : IntKind.i64.wrap (j.k.ring : Int) = (j.k.ring : Int) := by rw [IntKind.wrap_i64]; omega
  have ec : IntKind.i64.wrap (c : Int) = (c : Int) := by rw [IntKind.wrap_i64]; omega
  clear hc htg hht htn
  clear h d ok he live a hx hrx hs hsl
  go_enter Tryz.func54, Tryz.ntmps54
  go_upto_region 1 with fail
  go_cut [3] (fun s3 wx => ∃ gm, s3 = .pointer (some ⟨gm, 0, none⟩) ∧ LeftK Z w g gd gp n S p j gm s wx)
  case first =>
    have LB : Hid (LeftJ Z w g gd gp n S p j w.drew) := Lib.hid L0.out.drew
    go_wp2_with fail
    refine wp_region_held_drew (S := fun W => ∃ e, JO W g gd gp n e j) (by kernel_rfl) ⟨_, LB.out.o⟩ (fun hHeld => ?_)
    refine wpAnyH_take (i := 0) (v := ?v0a) (by simp only [List.getElem?_toArray, List.getElem?_cons_succ, List.getElem?_cons_zero]; rfl) (by kernel_rfl) (by kernel_rfl) (by kernel_rfl) (by exact fun _ _ _ h => h) (Or.inl ⟨by rfl, ?h0a⟩) (by assumption) ?_
    case h0a => (intro W hSw; (try dsimp only at hSw); go_simp; try with_reducible rfl)
    try simp only [Act.put, List.setIfInBounds_toArray, List.set_cons_zero, List.set_cons_succ]
    refine wpAnyH_take (i := 1) (v := ?v1a) (by simp only [List.getElem?_toArray, List.getElem?_cons_succ, List.getElem?_cons_zero]; rfl) (by kernel_rfl) (by kernel_rfl) (by kernel_rfl) (by exact fun _ _ _ h => h) (Or.inl ⟨by rfl, ?h1a⟩) (by assumption) ?_
    case h1a => (intro W hSw; (try dsimp only at hSw); go_simp; try with_reducible rfl)
    try simp only [Act.put, List.setIfInBounds_toArray, List.set_cons_zero, List.set_cons_succ]
    refine wpAnyH_take (i := 2) (v := ?v2a) (by simp only [List.getElem?_toArray, List.getElem?_cons_succ, List.getElem?_cons_zero]; rfl) (by kernel_rfl) (by kernel_rfl) (by kernel_rfl) (by exact fun _ _ _ h => h) (Or.inl ⟨by rfl, ?h2a⟩) (by assumption) ?_
    case h2a => (intro W hSw; (try dsimp only at hSw); go_simp; try with_reducible rfl)
    try simp only [Act.put, List.setIfInBounds_toArray, List.set_cons_zero, List.set_cons_succ]
    refine wpAnyH_take (i := 3) (v := ?v3a) (by simp only [List.getElem?_toArray, List.getElem?_cons_succ, List.getElem?_cons_zero]; rfl) (by kernel_rfl) (by kernel_rfl) (by kernel_rfl) (by exact fun _ _ _ h => h) (Or.inl ⟨by rfl, ?h3a⟩) (by assumption) ?_
    case h3a => (intro W hSw; (try dsimp only at hSw); go_simp; try with_reducible rfl)
    try simp only [Act.put, List.setIfInBounds_toArray, List.set_cons_zero, List.set_cons_succ]
    refine wpAnyH_take (i := 4) (v := ?v4a) (by simp only [List.getElem?_toArray, List.getElem?_cons_succ, List.getElem?_cons_zero]; rfl) (by kernel_rfl) (by kernel_rfl) (by kernel_rfl) (by exact fun _ _ _ h => h) (Or.inl ⟨by rfl, ?h4a⟩) (by assumption) ?_
    case h4a => (intro W hSw; (try dsimp only at hSw); go_simp; try with_reducible rfl)
    try simp only [Act.put, List.setIfInBounds_toArray, List.set_cons_zero, List.set_cons_succ]
    refine wpAnyH_take (i := 5) (v := ?v5a) (by simp only [List.getElem?_toArray, List.getElem?_cons_succ, List.getElem?_cons_zero]; rfl) (by kernel_rfl) (by kernel_rfl) (by kernel_rfl) (by exact fun _ _ _ h => h) (Or.inl ⟨by rfl, ?h5a⟩) (by assumption) ?_
    case h5a => (intro W hSw; (try dsimp only at hSw); go_simp; try with_reducible rfl)
    try simp only [Act.put, List.setIfInBounds_toArray, List.set_cons_zero, List.set_cons_succ]
    refine wpAnyH_take (i := 6) (by simp only [List.getElem?_toArray, List.getElem?_cons_succ, List.getElem?_cons_zero]; rfl) (by kernel_rfl) (by kernel_rfl) (by kernel_rfl) (by exact fun _ _ _ h => h) (yieldsIf_loadG (by rfl) 101 (.tmp 18) rfl ⟨g, 2, none⟩ rfl _ (fun W hW => hW.choose_spec.mark)) (by assumption) ?_
    try simp only [Act.put, List.setIfInBounds_toArray, List.set_cons_zero, List.set_cons_succ]
    refine wpAnyH_ready (rs := [7, 9]) (by kernel_rfl) (by simp) ?_
    refine AllReadyH.cons (by simp only [List.getElem?_toArray, List.getElem?_cons_succ, List.getElem?_cons_zero]; rfl) (fun K hK => ?_) (AllReadyH.cons (by simp only [List.getElem?_toArray, List.getElem?_cons_succ, List.getElem?_cons_zero]; rfl) (fun K hK => ?_) AllReadyH.nil)
    · go_simp
      refine (CI.out _).mono ?_
      rintro en w6 ⟨rfl, b6⟩
      have L1 := Lib.hid (LB.out.belowR b6)
      clear b6
      refine hK _ _ ⟨_, L1.out.o⟩ (fun hH7 => ?_)
      clear hK K
      try simp only [Act.put, List.setIfInBounds_toArray, List.set_cons_zero, List.set_cons_succ]
      refine wpAnyH_ready (rs := [8, 9]) (by kernel_rfl) (by simp) ?_
      refine AllReadyH.cons (by simp only [List.getElem?_toArray, List.getElem?_cons_succ, List.getElem?_cons_zero]; rfl) (fun K hK => ?_) (AllReadyH.cons (by simp only [List.getElem?_toArray, List.getElem?_cons_succ, List.getElem?_cons_zero]; rfl) (fun K hK => ?_) AllReadyH.nil)
      · go_simp
        refine (CR.out _ _ AP.out L1.out).mono ?_
        rintro en w8 ⟨rfl, l8⟩
        have L2 := Lib.hid l8
        clear l8
        refine hK _ _ ⟨_, L2.out.o⟩ (fun hH8 => ?_)
        clear hK K
        try simp only [Act.put, List.setIfInBounds_toArray, List.set_cons_zero, List.set_cons_succ]
        refine wpAnyH_ready (rs := [9]) (by kernel_rfl) (by simp) ?_
        refine AllReadyH.cons (by simp only [List.getElem?_toArray, List.getElem?_cons_succ, List.getElem?_cons_zero]; rfl) (fun K hK => ?_) AllReadyH.nil
        go_simp
        rw [zc97]
        have LG := Lib.hid (L2.out.gm zsec)
        refine hK _ _ ⟨_, LG.out.left.o⟩ (fun hH9 => ?_)
        clear hK K
        try simp only [Act.put, List.setIfInBounds_toArray, List.set_cons_zero, List.set_cons_succ]
        refine wpAnyH_ready (rs := [10]) (by kernel_rfl) (by simp) ?_
        refine AllReadyH.cons (by simp only [List.getElem?_toArray, List.getElem?_cons_succ, List.getElem?_cons_zero]; rfl) (fun K hK => ?_) AllReadyH.nil
        refine step_store_sec rfl (.tmp 3) (.tmp 21) rfl (w8.heap.size) s rfl rfl _ zsec LG.out.bw zsec_len SN.out ?_
        intro w9 h9 o9
        have lg9 := LG.out.row GLT.out GPT.out h9 o9
        have LG9 := Lib.hid lg9
        refine hK _ _ ⟨_, lg9.left.o⟩ (fun hH10 => ?_)
        clear hK K lg9 h9 o9
        try simp only [Act.put, List.setIfInBounds_toArray, List.set_cons_zero, List.set_cons_succ]
        refine wpAnyH_done (by kernel_rfl) ?_ _
        go_wp2_with fail
        go_meet
        exact ⟨w8.heap.size, rfl, LG9.out⟩
      · go_simp
        rw [zc97]
        have LH := Lib.hid (L1.out.gm zsec)
        refine hK _ _ ⟨_, LH.out.left.o⟩ (fun hH9 => ?_)
        clear hK K
        try simp only [Act.put, List.setIfInBounds_toArray, List.set_cons_zero, List.set_cons_succ]
        refine wpAnyH_ready (rs := [8]) (by kernel_rfl) (by simp) ?_
        refine AllReadyH.cons (by simp only [List.getElem?_toArray, List.getElem?_cons_succ, List.getElem?_cons_zero]; rfl) (fun K hK => ?_) AllReadyH.nil
        go_simp
        refine (CRG.out _ _ _ LH.out).mono ?_
        rintro en w8 ⟨rfl, l8⟩
        have LG := Lib.hid l8
        clear l8
        refine hK _ _ ⟨_, LG.out.left.o⟩ (fun hH8 => ?_)
        clear hK K
        try simp only [Act.put, List.setIfInBounds_toArray, List.set_cons_zero, List.set_cons_succ]
        refine wpAnyH_ready (rs := [10]) (by kernel_rfl) (by simp) ?_
        refine AllReadyH.cons (by simp only [List.getElem?_toArray, List.getElem?_cons_succ, List.getElem?_cons_zero]; rfl) (fun K hK => ?_) AllReadyH.nil
        refine step_store_sec rfl (.tmp 3) (.tmp 21) rfl (w6.heap.size) s rfl rfl _ zsec LG.out.bw zsec_len SN.out ?_
        intro w9 h9 o9
        have lg9 := LG.out.row GLT.out GPT.out h9 o9
        have LG9 := Lib.hid lg9
        refine hK _ _ ⟨_, lg9.left.o⟩ (fun hH10 => ?_)
        clear hK K lg9 h9 o9
        try simp only [Act.put, List.setIfInBounds_toArray, List.set_cons_zero, List.set_cons_succ]
        refine wpAnyH_done (by kernel_rfl) ?_ _
        go_wp2_with fail
        go_meet
        exact ⟨w6.heap.size, rfl, LG9.out⟩
    · go_simp
      rw [zc97]
      have LH := Lib.hid (LB.out.gm zsec)
      refine hK _ _ ⟨_, LH.out.left.o⟩ (fun hH9 => ?_)
      clear hK K
      try simp only [Act.put, List.setIfInBounds_toArray, List.set_cons_zero, List.set_cons_succ]
      refine wpAnyH_ready (rs := [7]) (by kernel_rfl) (by simp) ?_
      refine AllReadyH.cons (by simp only [List.getElem?_toArray, List.getElem?_cons_succ, List.getElem?_cons_zero]; rfl) (fun K hK => ?_) AllReadyH.nil
      go_simp
      refine (CI.out _).mono ?_
      rintro en w6 ⟨rfl, b6⟩
      have LI := Lib.hid (LH.out.below b6)
      clear b6
      refine hK _ _ ⟨_, LI.out.left.o⟩ (fun hH7 => ?_)
      clear hK K
      try simp only [Act.put, List.setIfInBounds_toArray, List.set_cons_zero, List.set_cons_succ]
      refine wpAnyH_ready (rs := [8]) (by kernel_rfl) (by simp) ?_
      refine AllReadyH.cons (by simp only [List.getElem?_toArray, List.getElem?_cons_succ, List.getElem?_cons_zero]; rfl) (fun K hK => ?_) AllReadyH.nil
      go_simp
      refine (CRG.out _ _ _ LI.out).mono ?_
      rintro en w8 ⟨rfl, l8⟩
      have LG := Lib.hid l8
      clear l8
      refine hK _ _ ⟨_, LG.out.left.o⟩ (fun hH8 => ?_)
      clear hK K
      try simp only [Act.put, List.setIfInBounds_toArray, List.set_cons_zero, List.set_cons_succ]
      refine wpAnyH_ready (rs := [10]) (by kernel_rfl) (by simp) ?_
      refine AllReadyH.cons (by simp only [List.getElem?_toArray, List.getElem?_cons_succ, List.getElem?_cons_zero]; rfl) (fun K hK => ?_) AllReadyH.nil
      refine step_store_sec rfl (.tmp 3) (.tmp 21) rfl (w.heap.size) s rfl rfl _ zsec LG.out.bw zsec_len SN.out ?_
      intro w9 h9 o9
      have lg9 := LG.out.row GLT.out GPT.out h9 o9
      have LG9 := Lib.hid lg9
      refine hK _ _ ⟨_, lg9.left.o⟩ (fun hH10 => ?_)
      clear hK K lg9 h9 o9
      try simp only [Act.put, List.setIfInBounds_toArray, List.set_cons_zero, List.set_cons_succ]
      refine wpAnyH_done (by kernel_rfl) ?_ _
      go_wp2_with fail
      go_meet
      exact ⟨w.heap.size, rfl, LG9.out⟩
  case rest =>
    obtain ⟨gm, rfl, lk⟩ := hcut
    have LK := Lib.hid lk
    have c3 := lk.left.o.c3
    have c5 := lk.left.o.c5
    clear lk
    go_upto_region 3 with (go_at_call 76; refine (CN.out gm _ LK.out.bw).mono ?_; rintro en w1 ⟨rfl, rfl⟩)
    have FIN : Hid (∀ k, LeftJ Z w g gd gp n S p j (wc.drewN k)) := Lib.hid (fun k => LK.out.left.belowR ⟨rfl, rfl, rfl, Nat.le_refl _, fun _ _ => rfl⟩)
    have CTq : Hid (∀ k, Calls Tryz.prog 77 #[.pointer (some ⟨gm, 0, none⟩)] (wc.drewN k) fun e w' => e = .returned (.int .u64 (tg : Int)) ∧ w' = wc.drewN k) := Lib.hid (fun k => RetW.still (CT.out gm (wc.drewN k) LK.out.bw))
    have CHq : Hid (∀ k, Calls Tryz.prog 78 #[.int .u64 (j.k.turn : Int)] (wc.drewN k) fun e w' => e = .returned (.int .u64 (ht : Int)) ∧ w' = wc.drewN k) := Lib.hid (fun k => RetW.still (CHT.out (wc.drewN k)))
    by_cases h1 : tg = ht
    · have hd1 : ((tg : Int) != (ht : Int)) = false := by rw [h1]; exact bne_self_eq_false _
      by_cases h2 : 40 < c
      · have hd2 : (40 : Int) < (c : Int) := by omega
        have hd3 : decide ((40 : Int) < (c : Int)) = true := decide_eq_true hd2
        clear h1 h2 hbad
        go_wp2_with fail
        go_quiet ((first
          | (go_at_call 77; refine Calls.quiet_of_same (CTq.out _))
          | (go_at_call 78; refine Calls.quiet_of_same (CHq.out _))))
        go_wp2_with fail
        go_ret
        exact ⟨none, 0, 0, rfl, rfl, fun hh => absurd rfl hh, FIN.out _⟩
      · have hd2 : ¬ (40 : Int) < (c : Int) := by omega
        have hd3 : decide ((40 : Int) < (c : Int)) = false := decide_eq_false hd2
        have hd4 : (j.k.ring : Int) ≤ (c : Int) := by omega
        have hd5 : decide ((j.k.ring : Int) ≤ (c : Int)) = true := decide_eq_true hd4
        clear h1 h2 hbad
        go_wp2_with fail
        go_quiet ((first
          | (go_at_call 77; refine Calls.quiet_of_same (CTq.out _))
          | (go_at_call 78; refine Calls.quiet_of_same (CHq.out _))))
        go_wp2_with fail
        go_ret
        exact ⟨none, 0, 0, rfl, rfl, fun hh => absurd rfl hh, FIN.out _⟩
    · have hd1 : ((tg : Int) != (ht : Int)) = true := by rw [bne_iff_ne]; omega
      clear h1 hbad
      go_wp2_with fail
      go_quiet ((first
        | (go_at_call 77; refine Calls.quiet_of_same (CTq.out _))
        | (go_at_call 78; refine Calls.quiet_of_same (CHq.out _))))
      go_wp2_with fail
      go_ret
      exact ⟨none, 0, 0, rfl, rfl, fun hh => absurd rfl hh, FIN.out _⟩
end
end Go.Proofs.YtadagbkfemcgfaaGreat
