/-
  Own work.
-/
import Derived.Test.YthoebjekkfhhgaaGreatCp9
import Derived.Test.YthoebjekkfhhgaaGreatJ4
set_option linter.unusedVariables false
set_option linter.unusedSimpArgs false
set_option maxRecDepth 100000
set_option maxHeartbeats 8000000
namespace Go.Proofs.YthoebjekkfhhgaaGreat
open Go.RowKit Go.Maps
theorem Pt.rd_ok {p : Pt} {n : Nat} {i : Int} (h : p.m.readE n i = 0) (he : p.e = 0) : p.rd n i = p := by
 obtain ⟨m, e⟩ := p
 unfold Pt.rd
 rw [if_pos he]
 show (⟨m, m.readE n i⟩ : Pt) = ⟨m, e⟩
 rw [show m.readE n i = 0 from h, show e = 0 from he]
theorem Pt.rdS_ok {p : Pt} {n : Nat} {i : Int} (h : p.m.readE n i = 0) (he : p.e = 0) : p.rdS n i = lst (p.m.readS n i) := by
 unfold Pt.rdS
 rw [if_pos ⟨he, h⟩]
theorem nwP_ok {p : Pt} {n : Nat} (he : p.e = 0) : ∀ k : Nat, (∀ i : Nat, i < k -> p.m.readE n (i : Int) = 0) -> nwP p n k = p
 | 0, _ => rfl
 | k + 1, h => by
   show (nwP p n k).rd n (k : Int) = p
   rw [nwP_ok he k (fun i hi => h i (by omega))]
   exact Pt.rd_ok (h k (by omega)) he
theorem nwM_ok {p : Pt} {n : Nat} (he : p.e = 0) : ∀ k : Nat, (∀ i : Nat, i < k -> p.m.readE n (i : Int) = 0) -> nwM p n k = newK p.m n k
 | 0, _ => rfl
 | k + 1, h => by
   have h1 := nwM_ok he k (fun i hi => h i (by omega))
   have h2 := nwP_ok he k (fun i hi => h i (by omega))
   show (if markB n ((nwP p n k).rdS n (k : Int)) = true /\ (nwM p n k).num < (markS ((nwP p n k).rdS n (k : Int))).num then markS ((nwP p n k).rdS n (k : Int)) else nwM p n k) = _
   rw [h1, h2, Pt.rdS_ok (h k (by omega)) he]
   rfl
theorem RM.readE_all {m : RM} {n : Nat} (h : m.readE n 0 = 0) {i : Int} (h0 : 0 <= i) (h1 : i < n) : m.readE n i = 0 := by
 unfold RM.readE at h ⊢
 split at h
 · cases h
 · rename_i hd
   rw [if_neg hd]
   split
   · rename_i hh
     omega
   · split at h
     · cases h
     · exact h
section
variable {Z : DK} {w w' W W' : World} {g gd gp n : Nat} {S T : Nat -> Prop} {e : Int} {j : JM} {m : RM} {p : Pt}
def LeftK (Z : DK) (w : World) (g gd gp n : Nat) (S : Nat -> Prop) (p : Pt) (j : JM) (gm : Nat) (s : List UInt8) (W : World) : Prop :=
 ∃ S2, Z.D W gd S2 n p.m /\ (∀ k, S2 k -> S k \/ w.heap.size <= k) /\ JO W g gd gp n p.e j /\ Only (fun k => S k \/ k = g \/ k = gp) w W /\ ¬ S2 gm /\ Bw W gm 185 s /\ w.heap.size <= gm
theorem LeftK.left {gm : Nat} {s : List UInt8} (l : LeftK Z w g gd gp n S p j gm s W) : LeftJ Z w g gd gp n S p j W := by
 obtain ⟨S2, d, hs, o, y, _, _, _⟩ := l
 exact ⟨⟨S2, d, hs⟩, o, y⟩
theorem LeftK.bw {gm : Nat} {s : List UInt8} (l : LeftK Z w g gd gp n S p j gm s W) : Bw W gm 185 s := by
 obtain ⟨S2, d, hs, o, y, _, h, _⟩ := l
 exact h
theorem LeftJ.gm (l : LeftJ Z w g gd gp n S p j W) (s : List UInt8) : LeftK Z w g gd gp n S p j W.heap.size s (W.alloc (.cells (cellsB s).toArray 185)) := by
 obtain ⟨⟨S2, d, hs⟩, o, y⟩ := l
 have hb : Below W.heap.size W (W.alloc (.cells (cellsB s).toArray 185)) := (Below.refl _ W).alloc (Nat.le_refl _) _
 exact ⟨S2, Z.only d (Only.of_below (S := fun _ => False) hb (Nat.le_refl _)) (fun _ _ h => h), hs, o.below hb, y.trans (Only.of_below hb (Nat.le_refl _)), fun hh => by have := Z.lt d _ hh; omega, Bw.new W s _, y.size⟩
theorem LeftK.below {gm : Nat} {s : List UInt8} (l : LeftK Z w g gd gp n S p j gm s W) (hb : Below W.heap.size W W') : LeftK Z w g gd gp n S p j gm s W' := by
 obtain ⟨S2, d, hs, o, y, h1, h2, h3⟩ := l
 exact ⟨S2, Z.only d (Only.of_below (S := fun _ => False) hb (Nat.le_refl _)) (fun _ _ h => h), hs, o.below hb, y.trans (Only.of_below hb (Nat.le_refl _)), h1, h2.below hb h2.lt, h3⟩
theorem LeftK.call {w1 : World} {gm : Nat} {s : List UInt8} (hb : Below w.heap.size w w1) (hm : Bw w1 gm 185 s) (h1 : w.heap.size <= gm) (hlt : ∀ k, S k -> k < w.heap.size) (hg : g < w.heap.size) (hp : gp < w.heap.size) (l : LeftJ Z w1 g gd gp n S p j W) : LeftK Z w g gd gp n S p j gm s W := by
 obtain ⟨⟨S2, d, hs⟩, o, y⟩ := l
 have hm1 := hm.lt
 refine ⟨S2, d, fun k hk => (hs k hk).imp id fun h => Nat.le_trans hb.size h, o, (Only.of_below hb (Nat.le_refl _)).trans y, fun hh => ?_, hm.keepO y (fun hh => ?_), h1⟩
 · rcases hs _ hh with h2 | h2
   · have := hlt _ h2; omega
   · omega
 · rcases hh with h2 | h2 | h2
   · have := hlt _ h2; omega
   · omega
   · omega
theorem LeftK.row {w1 : World} {gm : Nat} {s s' : List UInt8} (l : LeftK Z w g gd gp n S p j gm s W) (hg : g < w.heap.size) (hp : gp < w.heap.size) (h' : Bw w1 gm 185 s') (ho : Only (fun k => k = gm) W w1) : LeftK Z w g gd gp n S p j gm s' w1 := by
 obtain ⟨S2, d, hs, o, y, h1, h2, h3⟩ := l
 exact ⟨S2, Z.only d ho (fun k hk hh => h1 (hh ▸ hk)), hs, o.only ho (by omega) (by omega), y.trans' ho (fun k hk hh => by omega), h1, h', h3⟩
end
section
variable {Z : DK} {w w' W W' : World} {g gd gp n : Nat} {S T : Nat -> Prop} {e : Int} {j : JM} {m : RM} {p : Pt}
def RetLd (Z : DK) (w : World) (g gd gp n : Nat) (S : Nat -> Prop) (l : List Ch) (p : Pt) (j : JM) (e : Ending) (w' : World) : Prop :=
 ∃ A nl cl, e = .returned (.slice A nl cl) /\ nl = l.length /\ (nl ≠ 0 -> ∃ gl, A = some ⟨gl, 0, none⟩ /\ CB w' gl l /\ w.heap.size <= gl) /\ LeftJ Z w g gd gp n S p j w'
theorem jload_nil (h : JO w g gd gp n p.e j) (d : Z.D w gd S n p.m) (ok : p.m.Ok n) (he : p.e = 0) (live : p.m.readE n 0 = 0) (a : Apart w g gp S) (hbad : tagOf (lst (p.m.readS n (j.k.inRing 0 : Nat))) ≠ 2 * j.k.turn + 1 \/ 40 < num (sub (lst (p.m.readS n (j.k.inRing 0 : Nat))) 8 2) \/ j.k.ring <= num (sub (lst (p.m.readS n (j.k.inRing 0 : Nat))) 8 2)) :
 Calls Tryz.prog 109 #[.pointer (some ⟨g, 0, none⟩)] w (RetLd Z w g gd gp n S [] p j) := by
 have n2 := ok.n2
 have fit := h.ok.fit
 have r1 := h.ok.r1
 have r2 := h.ok.r2
 have r3 := h.ok.r3
 have ps := h.ok.ps
 obtain ⟨x, hx⟩ : ∃ x, j.k.inRing 0 = x := ⟨_, rfl⟩
 rw [hx] at hbad
 have hxn : x < n := by rw [<- hx]; have hlt := Nat.mod_lt (j.k.pos + 0) (show 0 < j.k.ring by omega); unfold Mk.inRing; try unfold Mk.ahead; omega
 have CI : Hid (∀ W, Calls Tryz.prog 115 #[.agg (mkC j.k), .int .i64 0] W (RetV2 W (.int .i64 (x : Int)))) := lH (fun W => by have := inRing_any j.k 0 W fit (by omega) (by omega); rwa [hx, show ((0 : Nat) : Int) = 0 from rfl] at this)
 have hrx : p.m.readE n (x : Int) = 0 := RM.readE_all live (by omega) (by omega)
 obtain ⟨s, hs⟩ : ∃ s, lst (p.m.readS n (x : Int)) = s := ⟨_, rfl⟩
 rw [hs] at hbad
 have hsl : s.length = 512 := by rw [<- hs, <- Pt.rdS_ok hrx he]; exact p.rdS_len ok _
 have CR : Hid (∀ W0 W, Apart W0 g gp S -> LeftJ Z W0 g gd gp n S p j W -> Calls Tryz.prog 139 #[.pointer (some ⟨g, 0, none⟩), .int .i64 (x : Int)] W (fun en W' => en = .returned (.agg (cellsB s).toArray) /\ LeftJ Z W0 g gd gp n S p j W')) := lH (fun W0 W hA hL => by
  have := jrd_on hA hL ok (x : Int) (by omega)
  rwa [Pt.rdS_ok hrx he, hs, Pt.rd_ok hrx he] at this)
 have CRG : Hid (∀ gm s0 W, LeftK Z w g gd gp n S p j gm s0 W -> Calls Tryz.prog 139 #[.pointer (some ⟨g, 0, none⟩), .int .i64 (x : Int)] W (fun en W' => en = .returned (.agg (cellsB s).toArray) /\ LeftK Z w g gd gp n S p j gm s0 W')) := lH (fun gm s0 W hL => by
  obtain ⟨S2, d2, hs2, o2, y2, h1, h2, h3⟩ := hL
  have hg2 : ¬ S2 g := fun hh => (hs2 g hh).elim a.s1 (by have := a.l1; omega)
  have hp2 : ¬ S2 gp := fun hh => (hs2 gp hh).elim a.s2 (by have := a.l2; omega)
  have := jrd_on (S := S2) (w := W) ⟨hg2, hp2, o2.lt, o2.ltp, a.ne⟩ (LeftJ.same d2 o2) ok (x : Int) (by omega)
  rw [Pt.rdS_ok hrx he, hs, Pt.rd_ok hrx he] at this
  refine this.mono ?_
  rintro en W' ⟨rfl, l⟩
  obtain ⟨⟨S3, d3, hs3⟩, o3, y3⟩ := l
  have hgl := a.l1
  have hpl := a.l2
  have hbl := h2.lt
  refine ⟨rfl, S3, d3, fun k hk => ?_, o3, y2.trans' y3 (fun k hk hh => ?_), fun hh => ?_, h2.keepO y3 (fun hh => ?_), h3⟩
  · rcases hs3 k hk with q | q
    · exact hs2 k q
    · exact .inr (Nat.le_trans y2.size q)
  · rcases hh with q | q
    · rcases hs2 k q with q2 | q2
      · exact .inl q2
      · omega
    · exact .inr q
  · rcases hs3 _ hh with q | q
    · exact h1 q
    · omega
  · rcases hh with q | q | q
    · exact h1 q
    · omega
    · omega)
 have L0 : Hid (LeftJ Z w g gd gp n S p j w) := lH (LeftJ.same d h)
 have AP := lH a
 have HLT : Hid (∀ k, S k -> k < w.heap.size) := lH (fun k hk => Z.lt d k hk)
 have GLT := lH h.lt
 have GPT := lH h.ltp
 have SN := lH hsl
 obtain ⟨c, hc⟩ : ∃ c, num (sub s 8 2) = c := ⟨_, rfl⟩
 have hc2 : c < 65536 := by rw [<- hc]; have := num_lt (sub s 8 2); rw [sub_len (by omega)] at this; omega
 obtain ⟨tg, htg⟩ : ∃ c, tagOf s = c := ⟨_, rfl⟩
 have htn := h.ok.tn
 have CN : Hid (∀ gm W, Bw W gm 185 s -> Calls Tryz.prog 140 #[.pointer (some ⟨gm, 0, none⟩), .int .i64 8, .int .i64 2] W (RetW W (.int .u64 (c : Int)))) := lH (fun gm W hW => by have := snum_any 8 2 hW hsl (by omega) (by omega) (by omega); rwa [hc] at this)
 have CT : Hid (∀ gm W, Bw W gm 185 s -> Calls Tryz.prog 141 #[.pointer (some ⟨gm, 0, none⟩)] W (RetW W (.int .u64 (tg : Int)))) := lH (fun gm W hW => by have := stag_any hW hsl; rwa [htg] at this)
 obtain ⟨ht, hht⟩ : ∃ x, 2 * j.k.turn + 1 = x := ⟨_, rfl⟩
 have CHT : Hid (∀ W, Calls Tryz.prog 142 #[.int .u64 (j.k.turn : Int)] W (RetW W (.int .u64 (ht : Int)))) := lH (fun W => by have := hdrTag_any j.k.turn W htn; rwa [hht] at this)
 rw [hc, htg, hht] at hbad
 have er : IntKind.i64.wrap (j.k.ring : Int) = (j.k.ring : Int) := by rw [IntKind.wrap_i64]; omega
 have ec : IntKind.i64.wrap (c : Int) = (c : Int) := by rw [IntKind.wrap_i64]; omega
 clear hc htg hht htn
 clear h d ok he live a hx hrx hs hsl
 go_enter Tryz.func109, Tryz.ntmps109
 go_upto_region 1 with fail
 go_cut [3] (fun s3 wx => ∃ gm, s3 = .pointer (some ⟨gm, 0, none⟩) /\ LeftK Z w g gd gp n S p j gm s wx)
 case first =>
  have LB : Hid (LeftJ Z w g gd gp n S p j w.drew) := lH L0.out.drew
  go_wp2_with fail
  refine wp_region_held_drew (S := fun W => ∃ e, JO W g gd gp n e j) (by kernel_rfl) ⟨_, LB.out.o⟩ (fun hHeld => ?_)
  refine tk9 (i := 0) (h := ?_)
  try simp only [aP,aN,aS,aZ,aC]
  refine tk9 (i := 1) (h := ?_)
  try simp only [aP,aN,aS,aZ,aC]
  refine tk9 (i := 2) (h := ?_)
  try simp only [aP,aN,aS,aZ,aC]
  refine tk9 (i := 3) (h := ?_)
  try simp only [aP,aN,aS,aZ,aC]
  refine tk9 (i := 4) (h := ?_)
  try simp only [aP,aN,aS,aZ,aC]
  refine tk9 (i := 5) (h := ?_)
  try simp only [aP,aN,aS,aZ,aC]
  refine tk9 (i := 6) (hy := (yieldsIf_loadG (by rfl) 137 (.tmp 18) rfl ⟨g, 2, none⟩ rfl _ (fun W hW => hW.choose_spec.mark))) (h := ?_)
  try simp only [aP,aN,aS,aZ,aC]
  refine wpAnyH_ready (rs := [7, 9]) (by kernel_rfl) (by simp) ?_
  refine rc9 (h := fun K hK => ?_) (hs := (rc9 (h := fun K hK => ?_) (hs := AllReadyH.nil)))
  · go_simp
    refine (CI.out _).mono ?_
    rintro en w6 ⟨rfl, b6⟩
    have L1 := lH (LB.out.belowR b6)
    clear b6
    refine hK _ _ ⟨_, L1.out.o⟩ (fun hH7 => ?_)
    clear hK K
    try simp only [aP,aN,aS,aZ,aC]
    refine wpAnyH_ready (rs := [8, 9]) (by kernel_rfl) (by simp) ?_
    refine rc9 (h := fun K hK => ?_) (hs := (rc9 (h := fun K hK => ?_) (hs := AllReadyH.nil)))
    · go_simp
      refine (CR.out _ _ AP.out L1.out).mono ?_
      rintro en w8 ⟨rfl, l8⟩
      have L2 := lH l8
      clear l8
      refine hK _ _ ⟨_, L2.out.o⟩ (fun hH8 => ?_)
      clear hK K
      try simp only [aP,aN,aS,aZ,aC]
      refine rd9 (i := 9) (h := fun K hK => ?_)
      go_simp
      rw [zc97]
      have LG := lH (L2.out.gm zsec)
      refine hK _ _ ⟨_, LG.out.left.o⟩ (fun hH9 => ?_)
      clear hK K
      try simp only [aP,aN,aS,aZ,aC]
      refine rd9 (i := 10) (h := fun K hK => ?_)
      refine step_store_sec rfl (.tmp 3) (.tmp 21) rfl (w8.heap.size) s rfl rfl _ zsec LG.out.bw zsec_len SN.out ?_
      intro w9 h9 o9
      have lg9 := LG.out.row GLT.out GPT.out h9 o9
      have LG9 := lH lg9
      refine hK _ _ ⟨_, lg9.left.o⟩ (fun hH10 => ?_)
      clear hK K lg9 h9 o9
      try simp only [aP,aN,aS,aZ,aC]
      refine wpAnyH_done (by kernel_rfl) ?_ _
      go_wp2_with fail
      go_meet
      exact ⟨w8.heap.size, rfl, LG9.out⟩
    · go_simp
      rw [zc97]
      have LH := lH (L1.out.gm zsec)
      refine hK _ _ ⟨_, LH.out.left.o⟩ (fun hH9 => ?_)
      clear hK K
      try simp only [aP,aN,aS,aZ,aC]
      refine rd9 (i := 8) (h := fun K hK => ?_)
      go_simp
      refine (CRG.out _ _ _ LH.out).mono ?_
      rintro en w8 ⟨rfl, l8⟩
      have LG := lH l8
      clear l8
      refine hK _ _ ⟨_, LG.out.left.o⟩ (fun hH8 => ?_)
      clear hK K
      try simp only [aP,aN,aS,aZ,aC]
      refine rd9 (i := 10) (h := fun K hK => ?_)
      refine step_store_sec rfl (.tmp 3) (.tmp 21) rfl (w6.heap.size) s rfl rfl _ zsec LG.out.bw zsec_len SN.out ?_
      intro w9 h9 o9
      have lg9 := LG.out.row GLT.out GPT.out h9 o9
      have LG9 := lH lg9
      refine hK _ _ ⟨_, lg9.left.o⟩ (fun hH10 => ?_)
      clear hK K lg9 h9 o9
      try simp only [aP,aN,aS,aZ,aC]
      refine wpAnyH_done (by kernel_rfl) ?_ _
      go_wp2_with fail
      go_meet
      exact ⟨w6.heap.size, rfl, LG9.out⟩
  · go_simp
    rw [zc97]
    have LH := lH (LB.out.gm zsec)
    refine hK _ _ ⟨_, LH.out.left.o⟩ (fun hH9 => ?_)
    clear hK K
    try simp only [aP,aN,aS,aZ,aC]
    refine rd9 (i := 7) (h := fun K hK => ?_)
    go_simp
    refine (CI.out _).mono ?_
    rintro en w6 ⟨rfl, b6⟩
    have LI := lH (LH.out.below b6)
    clear b6
    refine hK _ _ ⟨_, LI.out.left.o⟩ (fun hH7 => ?_)
    clear hK K
    try simp only [aP,aN,aS,aZ,aC]
    refine rd9 (i := 8) (h := fun K hK => ?_)
    go_simp
    refine (CRG.out _ _ _ LI.out).mono ?_
    rintro en w8 ⟨rfl, l8⟩
    have LG := lH l8
    clear l8
    refine hK _ _ ⟨_, LG.out.left.o⟩ (fun hH8 => ?_)
    clear hK K
    try simp only [aP,aN,aS,aZ,aC]
    refine rd9 (i := 10) (h := fun K hK => ?_)
    refine step_store_sec rfl (.tmp 3) (.tmp 21) rfl (w.heap.size) s rfl rfl _ zsec LG.out.bw zsec_len SN.out ?_
    intro w9 h9 o9
    have lg9 := LG.out.row GLT.out GPT.out h9 o9
    have LG9 := lH lg9
    refine hK _ _ ⟨_, lg9.left.o⟩ (fun hH10 => ?_)
    clear hK K lg9 h9 o9
    try simp only [aP,aN,aS,aZ,aC]
    refine wpAnyH_done (by kernel_rfl) ?_ _
    go_wp2_with fail
    go_meet
    exact ⟨w.heap.size, rfl, LG9.out⟩
 case rest =>
  obtain ⟨gm, rfl, lk⟩ := hcut
  have LK := lH lk
  have c3 := lk.left.o.c3
  have c5 := lk.left.o.c5
  clear lk
  go_upto_region 3 with (go_at_call 140; refine (CN.out gm _ LK.out.bw).mono ?_; rintro en w1 ⟨rfl, rfl⟩)
  have FIN : Hid (∀ k, LeftJ Z w g gd gp n S p j (wc.drewN k)) := lH (fun k => LK.out.left.belowR ⟨rfl, rfl, rfl, Nat.le_refl _, fun _ _ => rfl⟩)
  have CTq : Hid (∀ k, Calls Tryz.prog 141 #[.pointer (some ⟨gm, 0, none⟩)] (wc.drewN k) fun e w' => e = .returned (.int .u64 (tg : Int)) /\ w' = wc.drewN k) := lH (fun k => RetW.still (CT.out gm (wc.drewN k) LK.out.bw))
  have CHq : Hid (∀ k, Calls Tryz.prog 142 #[.int .u64 (j.k.turn : Int)] (wc.drewN k) fun e w' => e = .returned (.int .u64 (ht : Int)) /\ w' = wc.drewN k) := lH (fun k => RetW.still (CHT.out (wc.drewN k)))
  by_cases h1 : tg = ht
  · have hd1 : ((tg : Int) != (ht : Int)) = false := by rw [h1]; exact bne_self_eq_false _
    by_cases h2 : 40 < c
    · have hd2 : (40 : Int) < (c : Int) := by omega
      have hd3 : decide ((40 : Int) < (c : Int)) = true := decide_eq_true hd2
      clear h1 h2 hbad
      go_wp2_with fail
      go_quiet ((first
       | (go_at_call 141; refine Calls.quiet_of_same (CTq.out _))
       | (go_at_call 142; refine Calls.quiet_of_same (CHq.out _))))
      go_wp2_with fail
      go_ret
      exact ⟨none, 0, 0, rfl, rfl, fun hh => absurd rfl hh, FIN.out _⟩
    · have hd2 : ¬ (40 : Int) < (c : Int) := by omega
      have hd3 : decide ((40 : Int) < (c : Int)) = false := decide_eq_false hd2
      have hd4 : (j.k.ring : Int) <= (c : Int) := by omega
      have hd5 : decide ((j.k.ring : Int) <= (c : Int)) = true := decide_eq_true hd4
      clear h1 h2 hbad
      go_wp2_with fail
      go_quiet ((first
       | (go_at_call 141; refine Calls.quiet_of_same (CTq.out _))
       | (go_at_call 142; refine Calls.quiet_of_same (CHq.out _))))
      go_wp2_with fail
      go_ret
      exact ⟨none, 0, 0, rfl, rfl, fun hh => absurd rfl hh, FIN.out _⟩
  · have hd1 : ((tg : Int) != (ht : Int)) = true := by rw [bne_iff_ne]; omega
    clear h1 hbad
    go_wp2_with fail
    go_quiet ((first
     | (go_at_call 141; refine Calls.quiet_of_same (CTq.out _))
     | (go_at_call 142; refine Calls.quiet_of_same (CHq.out _))))
    go_wp2_with fail
    go_ret
    exact ⟨none, 0, 0, rfl, rfl, fun hh => absurd rfl hh, FIN.out _⟩
end
section
variable {Z : DK} {w w' W W' W0 : World} {g gd gp n : Nat} {S T : Nat -> Prop} {e : Int} {j : JM} {m : RM} {p : Pt} {B B' B0 : Nat -> Prop}
def LeftB (Z : DK) (w : World) (g gd gp n : Nat) (S : Nat -> Prop) (p : Pt) (j : JM) (B : Nat -> Prop) (W : World) : Prop :=
 ∃ S2, Z.D W gd S2 n p.m /\ (∀ k, S2 k -> S k \/ w.heap.size <= k) /\ JO W g gd gp n p.e j /\ Only (fun k => S k \/ k = g \/ k = gp) w W /\ ∀ k, B k -> ¬ S2 k /\ w.heap.size <= k /\ k < W.heap.size
theorem LeftB.left (l : LeftB Z w g gd gp n S p j B W) : LeftJ Z w g gd gp n S p j W := by
 obtain ⟨S2, d, hs, o, y, _⟩ := l
 exact ⟨⟨S2, d, hs⟩, o, y⟩
theorem LeftK.leftB {gm : Nat} {s : List UInt8} (l : LeftK Z w g gd gp n S p j gm s W) : LeftB Z w g gd gp n S p j (fun k => k = gm) W := by
 obtain ⟨S2, d, hs, o, y, h1, h2, h3⟩ := l
 refine ⟨S2, d, hs, o, y, fun k hk => ?_⟩
 subst hk
 exact ⟨h1, h3, h2.lt⟩
theorem LeftB.own (hg : g < w.heap.size) (hp : gp < w.heap.size) (l : LeftB Z w g gd gp n S p j B W) (ho : Only (fun k => B k \/ W.heap.size <= k) W W') (hB : ∀ k, B' k -> B k \/ (W.heap.size <= k /\ k < W'.heap.size)) : LeftB Z w g gd gp n S p j B' W' := by
 obtain ⟨S2, d, hs, o, y, h1⟩ := l
 have ys := y.size
 have hos := ho.size
 refine ⟨S2, Z.only d ho (fun k hk hh => hh.elim (fun h => (h1 k h).1 hk) (fun h => by have := Z.lt d k hk; omega)), hs, o.only ho (fun hh => hh.elim (fun h => by have := (h1 g h).2.1; omega) (fun h => by omega)) (fun hh => hh.elim (fun h => by have := (h1 gp h).2.1; omega) (fun h => by omega)), y.trans' ho (fun k hk hh => hh.elim (fun h => by have := (h1 k h).2.1; omega) (fun h => by omega)), fun k hk => ?_⟩
 rcases hB k hk with h | h
 · have := h1 k h
   exact ⟨this.1, this.2.1, by omega⟩
 · exact ⟨fun hh => by have := Z.lt d k hh; omega, by omega, h.2⟩
theorem LeftB.below (hg : g < w.heap.size) (hp : gp < w.heap.size) (l : LeftB Z w g gd gp n S p j B W) (hb : Below W.heap.size W W') : LeftB Z w g gd gp n S p j B W' := l.own hg hp (Only.of_below hb (Nat.le_refl _)) (fun k hk => .inl hk)
theorem LeftB.read (a : Apart w g gp S) (l : LeftB Z w g gd gp n S p j B W) (ok : p.m.Ok n) (i : Int) (hi : -9223372036854775808 <= i /\ i <= 9223372036854775807) :
 Calls Tryz.prog 139 #[.pointer (some ⟨g, 0, none⟩), .int .i64 i] W (fun en W' => en = .returned (.agg (cellsB (p.rdS n i)).toArray) /\ LeftB Z w g gd gp n S (p.rd n i) j B W' /\ Only (fun k => ¬ B k) W W') := by
 obtain ⟨S2, d2, hs2, o2, y2, h1⟩ := l
 have hgl := a.l1
 have hpl := a.l2
 have ys := y2.size
 have hg2 : ¬ S2 g := fun hh => (hs2 g hh).elim a.s1 (by omega)
 have hp2 : ¬ S2 gp := fun hh => (hs2 gp hh).elim a.s2 (by omega)
 refine (jrd_on (S := S2) (w := W) ⟨hg2, hp2, o2.lt, o2.ltp, a.ne⟩ (LeftJ.same d2 o2) ok i hi).mono ?_
 rintro en W' ⟨rfl, l⟩
 obtain ⟨⟨S3, d3, hs3⟩, o3, y3⟩ := l
 have ys3 := y3.size
 have hnot : ∀ k, B k -> ¬ (S2 k \/ k = g \/ k = gp) := by
  intro k hk hh
  have := h1 k hk
  rcases hh with q | q | q
  · exact this.1 q
  · omega
  · omega
 refine ⟨rfl, ⟨S3, d3, fun k hk => ?_, o3, y2.trans' y3 (fun k hk hh => ?_), fun k hk => ⟨fun hh => ?_, (h1 k hk).2.1, by have := (h1 k hk).2.2; omega⟩⟩, y3.mono (fun k hk hh hb => hnot k hb hh)⟩
 · rcases hs3 k hk with q | q
   · exact hs2 k q
   · exact .inr (by omega)
 · rcases hh with q | q
   · rcases hs2 k q with q2 | q2
     · exact .inl q2
     · omega
   · exact .inr q
 · rcases hs3 _ hh with q | q
   · exact (h1 k hk).1 q
   · have := (h1 k hk).2.2; omega
theorem LeftB.home (l : LeftB Z w g gd gp n S p j B W) (ok : p.m.Ok n) (i : Int) (hi : -9223372036854775808 <= i /\ i <= 9223372036854775807) :
 Calls Tryz.prog 112 #[.pointer (some ⟨g, 0, none⟩), .int .i64 i] W (RetV2 W (.bool (decide (0 <= i /\ i < (j.homes n : Int))))) := by
 obtain ⟨S2, d2, hs2, o2, y2, h1⟩ := l
 exact jishome_any i o2 d2 ok hi
def LeftN (Z : DK) (w : World) (g gd gp n : Nat) (S : Nat -> Prop) (p : Pt) (j : JM) (B : Nat -> Prop) (W0 W : World) : Prop :=
 LeftB Z w g gd gp n S p j B W /\ Only (fun k => ¬ B k) W0 W
def LeftM (Z : DK) (w : World) (g gd gp n : Nat) (S : Nat -> Prop) (p : Pt) (j : JM) (B : Nat -> Prop) (W0 : World) (b : Nat) (s : List UInt8) (W : World) : Prop :=
 LeftB Z w g gd gp n S p j (fun k => B k \/ k = b) W /\ Only (fun k => ¬ B k) W0 W /\ Bw W b 185 s /\ W0.heap.size <= b
variable {b : Nat} {s : List UInt8}
theorem LeftN.o (l : LeftN Z w g gd gp n S p j B W0 W) : JO W g gd gp n p.e j := l.1.left.o
theorem LeftM.o (l : LeftM Z w g gd gp n S p j B W0 b s W) : JO W g gd gp n p.e j := l.1.left.o
theorem LeftN.same (l : LeftB Z w g gd gp n S p j B W) : LeftN Z w g gd gp n S p j B W W := ⟨l, Only.refl _ _⟩
theorem LeftN.drew (l : LeftN Z w g gd gp n S p j B W0 W) : LeftN Z w g gd gp n S p j B W0 W.drew := by
 obtain ⟨⟨S2, d, hs, o, y, h1⟩, h2⟩ := l
 exact ⟨⟨S2, Z.only d ⟨rfl, rfl, rfl, Nat.le_refl _, fun _ _ _ => rfl⟩ (fun (_ : Nat) (_ : S2 _) (h : False) => h), hs, o.drew, y.drew, h1⟩, h2.drew⟩
theorem LeftN.below (hg : g < w.heap.size) (hp : gp < w.heap.size) (l : LeftN Z w g gd gp n S p j B W0 W) (hb : Below W.heap.size W W') : LeftN Z w g gd gp n S p j B W0 W' :=
 ⟨l.1.below hg hp hb, l.2.trans (Only.of_below hb (Nat.le_refl _))⟩
theorem LeftM.below (hg : g < w.heap.size) (hp : gp < w.heap.size) (l : LeftM Z w g gd gp n S p j B W0 b s W) (hb : Below W.heap.size W W') : LeftM Z w g gd gp n S p j B W0 b s W' :=
 ⟨l.1.below hg hp hb, l.2.1.trans (Only.of_below hb (Nat.le_refl _)), l.2.2.1.below hb l.2.2.1.lt, l.2.2.2⟩
theorem LeftN.read (a : Apart w g gp S) (l : LeftN Z w g gd gp n S p j B W0 W) (ok : p.m.Ok n) (i : Int) (hi : -9223372036854775808 <= i /\ i <= 9223372036854775807) :
 Calls Tryz.prog 139 #[.pointer (some ⟨g, 0, none⟩), .int .i64 i] W (fun en W' => en = .returned (.agg (cellsB (p.rdS n i)).toArray) /\ LeftN Z w g gd gp n S (p.rd n i) j B W0 W') := by
 refine (l.1.read a ok i hi).mono ?_
 rintro en W' ⟨h1, h2, h3⟩
 exact ⟨h1, h2, l.2.trans h3⟩
theorem LeftM.read (a : Apart w g gp S) (l : LeftM Z w g gd gp n S p j B W0 b s W) (ok : p.m.Ok n) (i : Int) (hi : -9223372036854775808 <= i /\ i <= 9223372036854775807) :
 Calls Tryz.prog 139 #[.pointer (some ⟨g, 0, none⟩), .int .i64 i] W (fun en W' => en = .returned (.agg (cellsB (p.rdS n i)).toArray) /\ LeftM Z w g gd gp n S (p.rd n i) j B W0 b s W') := by
 refine (l.1.read a ok i hi).mono ?_
 rintro en W' ⟨h1, h2, h3⟩
 exact ⟨h1, h2, l.2.1.trans (h3.mono (fun k _ hk hb => hk (.inl hb))), l.2.2.1.keepO h3 (fun hh => hh (.inr rfl)), l.2.2.2⟩
theorem LeftN.gm (hg : g < w.heap.size) (hp : gp < w.heap.size) (l : LeftN Z w g gd gp n S p j B W0 W) (s : List UInt8) : LeftM Z w g gd gp n S p j B W0 W.heap.size s (W.alloc (.cells (cellsB s).toArray 185)) := by
 have hb : Below W.heap.size W (W.alloc (.cells (cellsB s).toArray 185)) := (Below.refl _ W).alloc (Nat.le_refl _) _
 refine ⟨l.1.own hg hp (Only.of_below hb (Nat.le_refl _)) (fun k hk => hk.imp id fun e => ⟨by omega, by subst e; simp⟩), l.2.trans (Only.of_below hb (Nat.le_refl _)), Bw.new W s _, l.2.size⟩
theorem LeftM.row {w1 : World} {s' : List UInt8} (hB : ∀ k, B k -> k < W0.heap.size) (hg : g < w.heap.size) (hp : gp < w.heap.size) (l : LeftM Z w g gd gp n S p j B W0 b s W) (h' : Bw w1 b 185 s') (ho : Only (fun k => k = b) W w1) : LeftM Z w g gd gp n S p j B W0 b s' w1 := by
 obtain ⟨l1, l2, l3, l4⟩ := l
 refine ⟨l1.own hg hp (ho.mono (fun k _ hk => .inl (.inr hk))) (fun k hk => .inl hk), l2.trans (ho.mono (fun k _ hk hb => by have := hB k hb; omega)), h', l4⟩
end
end Go.Proofs.YthoebjekkfhhgaaGreat
