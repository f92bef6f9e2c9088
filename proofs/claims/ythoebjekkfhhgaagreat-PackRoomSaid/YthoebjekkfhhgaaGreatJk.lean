/-
  Own work.
-/
import Derived.Test.YthoebjekkfhhgaaGreatCp9
import Derived.Test.YthoebjekkfhhgaaGreatJy
import Derived.Test.YthoebjekkfhhgaaGreatG5
set_option linter.unusedVariables false
set_option linter.unusedSimpArgs false
set_option maxRecDepth 100000
set_option maxHeartbeats 8000000
namespace Go.Proofs.YthoebjekkfhhgaaGreat
open Go.RowKit Go.Maps Go.Sort Go.Shelf
section
variable {Z : DK} {w w' W W' : World} {g gd gp n : Nat} {S T : Nat -> Prop} {e : Int} {j : JM} {m : RM} {p : Pt}
theorem jck_full1 (h : JO w g gd gp n p.e j) (d : Z.D w gd S n p.m) (ok : p.m.Ok n) (hc : chkE p j = 0) (hf : frK j.fresh (j.homes n) ≠ []) (hn : 4611686018427387904 <= j.k.num) :
 Calls Tryz.prog 76 #[.pointer (some ⟨g, 0, none⟩)] w (fun en w' => en = .returned (.int .i64 7) /\ ∃ k, w' = w.drewN k) := by
 have C := lH (jcheck_any h d ok)
 have h8 : chkE ⟨p.m, p.e⟩ j = 0 := hc
 rw [h8] at C
 have c8 := h.c8
 have c2 := h.c2
 have c3 := h.c3
 have H := lH h
 obtain ⟨L, hL⟩ : ∃ L, (frK j.fresh (j.homes n)).length = L := ⟨_, rfl⟩
 have hL0 : 0 < L := by rw [<- hL]; exact List.length_pos_iff.2 hf
 have hL1 : ((L : Int) == 0) = false := by rw [beq_eq_false_iff_ne]; omega
 have LF := lH hL
 obtain ⟨a, ha⟩ : ∃ a, j.k.num = a := ⟨_, rfl⟩
 obtain ⟨b, hb⟩ : ∃ b, j.k.turn = b := ⟨_, rfl⟩
 rw [ha] at c2 hn
 rw [hb] at c3 
 have q1 : (4611686018427387904 : Int) <= (a : Int) := by omega
 clear h d ok hc h8 hf hL ha hb
 go_enter Tryz.func76, Tryz.ntmps76
 go_wp2_with (first
  | (go_at_call 111; refine C.out.mono ?_; rintro en w1 ⟨rfl, k, rfl⟩
     have HK := lH (H.out.drewN k))
  | (refine wp_lenG (by rfl) (.tmp 15) rfl rfl HK.out ?_; rw [LF.out]))
 go_ret
 exact ⟨rfl, _, rfl⟩
theorem jck_full2 (h : JO w g gd gp n p.e j) (d : Z.D w gd S n p.m) (ok : p.m.Ok n) (hc : chkE p j = 0) (hf : frK j.fresh (j.homes n) ≠ []) (hn : j.k.num < 4611686018427387904) (ht : 4611686018427387904 <= j.k.turn) :
 Calls Tryz.prog 76 #[.pointer (some ⟨g, 0, none⟩)] w (fun en w' => en = .returned (.int .i64 7) /\ ∃ k, w' = w.drewN k) := by
 have C := lH (jcheck_any h d ok)
 have h8 : chkE ⟨p.m, p.e⟩ j = 0 := hc
 rw [h8] at C
 have c8 := h.c8
 have c2 := h.c2
 have c3 := h.c3
 have H := lH h
 obtain ⟨L, hL⟩ : ∃ L, (frK j.fresh (j.homes n)).length = L := ⟨_, rfl⟩
 have hL0 : 0 < L := by rw [<- hL]; exact List.length_pos_iff.2 hf
 have hL1 : ((L : Int) == 0) = false := by rw [beq_eq_false_iff_ne]; omega
 have LF := lH hL
 obtain ⟨a, ha⟩ : ∃ a, j.k.num = a := ⟨_, rfl⟩
 obtain ⟨b, hb⟩ : ∃ b, j.k.turn = b := ⟨_, rfl⟩
 rw [ha] at c2 hn
 rw [hb] at c3 ht
 have q1 : decide ((4611686018427387904 : Int) <= (a : Int)) = false := decide_eq_false (by omega)
 have q2 : (4611686018427387904 : Int) <= (b : Int) := by omega
 clear h d ok hc h8 hf hL ha hb
 go_enter Tryz.func76, Tryz.ntmps76
 go_wp2_with (first
  | (go_at_call 111; refine C.out.mono ?_; rintro en w1 ⟨rfl, k, rfl⟩
     have HK := lH (H.out.drewN k))
  | (refine wp_lenG (by rfl) (.tmp 15) rfl rfl HK.out ?_; rw [LF.out]))
 go_ret
 exact ⟨rfl, _, rfl⟩
theorem cpK_snoc (p : Pt) (n : Nat) (j : JM) (is : List Nat) (k i : Nat) (h : is[k]? = some i) : cpK p n j (is.take (k + 1)) = (cpK p n j (is.take k)).wr n (j.k.atHome i : Nat) (lst (j.fresh.getD i emp)) := by
 rw [List.take_add_one, h]
 unfold cpK
 rw [List.foldl_append]
 rfl
theorem cpK_ok (p : Pt) (n : Nat) (j : JM) (ok : p.m.Ok n) (is : List Nat) (hw : p.m.wrote + is.length <= 1073741823) : (cpK p n j is).m.Ok n /\ (cpK p n j is).m.wrote <= p.m.wrote + is.length := by
 unfold cpK
 induction is generalizing p with
 | nil => exact ⟨ok, Nat.le_refl _⟩
 | cons i r ih =>
   rw [List.length_cons] at hw ⊢
   have h1 := Pt.wr_wrote p n (j.k.atHome i : Nat) (lst (j.fresh.getD i emp))
   obtain ⟨h2, h3⟩ := ih (p.wr n (j.k.atHome i : Nat) (lst (j.fresh.getD i emp))) (Pt.wr_ok ok (by omega) _ _) (by omega)
   exact ⟨h2, by rw [List.foldl_cons]; omega⟩
theorem frK_len (f : List ByteArray) (N : Nat) : (frK f N).length <= N := by
 unfold frK
 have := List.length_filter_le (fun i => decide ((f.getD i emp).size ≠ 0)) (List.range N)
 rwa [List.length_range] at this
theorem yieldsIf_lk {ops : Array Oper} {o : Oper} {a : Act} {S : World -> Prop} (hw : Region.wanted o (yielded ops a.tmps) = true) (ty : TypeId) (mo xo : Operand) (ho : o.op = .lookup ty mo xo false) (M X v : Value) (hm : a.eval mo = M) (hx : a.eval xo = X)
 (hl : ∀ w, S w -> (Instr.lookup ty M X false).run Tryz.prog w = .ok v w) : YieldsIf Tryz.prog ops S o v a := by
 refine Or.inl ⟨hw, fun w hS => ?_⟩
 unfold execOp
 simp only [ho, hm, hx, Sem.run_bind, Sem.run_pure, Result.andThen_ok, hl w hS]
theorem load_jmap {W : World} {ad : Addr} {b : Nat} (h : W.cell? ad = some (.map (some b))) : (loadVar 140 ad).run Tryz.prog W = .ok (.map (some b)) W := by
 simp [loadVar, isAgg, run_underlying Tryz.underlying140, go_sem, h]
open Go.ChangeMaps Go.MapKept in
theorem wp_clearJ {ops : Array Oper} {rest : List Oper} {o : Oper} {a : Act} {W : World} {Q : Exit -> Act -> World -> Prop} {c : Nat} {D : DU} (hg : o.guard = none) (mo : Operand) (ho : o.op = .call { callee := .builtin .clear, args := #[mo], argTypes := #[140] })
 (hm : a.eval mo = .map (some gp)) (h : W.ownsMap Tryz.prog 3 secElem gp c D)
 (hK : ∀ w', w'.ownsMap Tryz.prog 3 secElem gp 0 (.map [] : DU) -> Only (fun j => j = gp) W w' -> wpList Tryz.prog ops Q rest (a.put o.dst (.tuple #[])) w') : wpList Tryz.prog ops Q (o :: rest) a W := by
 refine wpList_plain hg fun K hKK => ?_
 obtain ⟨es, clock, hb, F, hs, hD⟩ := h
 have hrun : (Builtin.clear_ #[140] o.type #[.map (some gp)]).run Tryz.prog W = .ok (.tuple #[]) (setBlock W gp (.map #[] clock)) := by
  simp [Builtin.clear_, run_underlying Tryz.underlying140, MapKept.run_getObj_map hb, MapKept.run_setObj_map _ hb, Result.andThen]
  rfl
 unfold Oper.wp execOp
 simp only [ho, resolve, invoke, builtin, Sem.run_bind, Sem.run_pure, Result.andThen_ok, List.map_toArray, List.map_cons, List.map_nil, hm, hrun]
 refine hKK _ _ (hK _ ⟨#[], clock, heap_setBlock_same hb _, ⟨by simp, MapKept.stamped_empty clock, by simp⟩, Nat.le_refl _, rfl⟩ ⟨rfl, rfl, rfl, by simp [setBlock], fun k _ hk => heap_setBlock_other hb _ hk⟩)
theorem JM.Ok.clean (h : j.Ok n) (hn : j.k.num < 4611686018427387904) : j.clean.Ok n :=
 ⟨by show j.k.num + 1 < _; omega, h.tn, h.r1, h.r2, h.r3, h.ps, h.lv, Nat.zero_le _, by show (List.replicate j.fresh.length emp).length = _; rw [List.length_replicate]; exact h.fl, fun s hs => .inl (by rw [(List.mem_replicate.1 hs).2]; rfl)⟩
theorem jck_go (h : JO w g gd gp n p.e j) (d : Z.D w gd S n p.m) (a : Apart w g gp S) (ok : p.m.Ok n) (hw : p.m.wrote <= 1073730000) (hc : chkE p j = 0) (hf : frK j.fresh (j.homes n) ≠ []) (hn : j.k.num < 4611686018427387904) (ht : j.k.turn < 4611686018427387904) :
 Calls Tryz.prog 76 #[.pointer (some ⟨g, 0, none⟩)] w (fun en w' => en = .returned (.int .i64 (cpP p n j).e) /\ LeftJ Z w g gd gp n S (cpP p n j) (if (cpP p n j).e = 0 then j.clean else j) w') := by
 obtain ⟨J', hJ⟩ : ∃ J', (if (cpP p n j).e = 0 then j.clean else j) = J' := ⟨_, rfl⟩
 rw [hJ]
 have HJ := lH hJ
 clear hJ
 have JOK := lH (h.ok.clean hn)
 have n2 := ok.n2
 have C := lH (jcheck_any h d ok)
 have h8 : chkE ⟨p.m, p.e⟩ j = 0 := hc
 rw [h8] at C
 have c8 := h.c8
 have c2 := h.c2
 have c3 := h.c3
 have H := lH h
 have AP := lH a
 have fit := h.ok.fit
 have r1 := h.ok.r1
 have r2 := h.ok.r2
 have hfl := h.ok.fl
 have hfs := h.ok.fs
 have hlen := frK_len j.fresh (j.homes n)
 have hhn := h.sizeH n2
 obtain ⟨L, hL⟩ : ∃ L, (frK j.fresh (j.homes n)).length = L := ⟨_, rfl⟩
 have hL0 : 0 < L := by rw [<- hL]; exact List.length_pos_iff.2 hf
 have hL1 : ((L : Int) == 0) = false := by rw [beq_eq_false_iff_ne]; omega
 have hL2 : L <= 4096 := by omega
 have q1 : decide ((4611686018427387904 : Int) <= (j.k.num : Int)) = false := decide_eq_false (by omega)
 have q2 : decide ((4611686018427387904 : Int) <= (j.k.turn : Int)) = false := decide_eq_false (by omega)
 have LF := lH hL
 have D0 := lH d
 have CO : Hid (∀ k, k <= L -> (cpK p n j ((frK j.fresh (j.homes n)).take k)).m.Ok n /\ (cpK p n j ((frK j.fresh (j.homes n)).take k)).m.wrote <= p.m.wrote + 4096) := lH (fun k hk => by
  have hl : ((frK j.fresh (j.homes n)).take k).length <= 4096 := by rw [List.length_take]; omega
  have := cpK_ok p n j ok ((frK j.fresh (j.homes n)).take k) (by omega)
  exact ⟨this.1, by omega⟩)
 have SL : Hid (∀ k, S k -> k < w.heap.size) := lH (fun k hk => Z.lt d k hk)
 have CS := lH (fun k => jsorted_any (h.drewN k))
 clear h d a ok hc h8 hf hL hlen
 go_enter Tryz.func76, Tryz.ntmps76
 go_wp2_with (first
  | (go_at_call 111; refine C.out.mono ?_; rintro en w1 ⟨rfl, k, rfl⟩
     have HK := lH (H.out.drewN k))
  | (refine wp_lenG (by rfl) (.tmp 15) rfl rfl HK.out ?_; rw [LF.out])
  | (go_at_call 113; refine (jkeys_any _ _).mono ?_; rintro en w2 ⟨rfl, rfl⟩)
  | (go_at_call 79; refine (CS.out k).mono ?_; rintro en w3 ⟨A3, q3, c3', rfl, own3, b3⟩
     have OW3 := lH own3
     have B3 := lH b3
     clear own3 b3))
 have b3 : Below w.heap.size w w3 := ⟨B3.out.os, B3.out.tape, B3.out.output, B3.out.size, B3.out.block⟩
 have hq3 : q3 = L := by have := OW3.out.len; rw [this]; unfold ints; rw [List.length_map]; exact LF.out
 subst hq3
 obtain ⟨gr, rfl, hgr1, hgr2, hgc⟩ := OW3.out.at_ hL0
 have hgr1' : w.heap.size <= gr := hgr1
 have d3 : Z.D w3 gd S n p.m := Z.only D0.out (Only.of_below (S := fun _ => False) b3 (Nat.le_refl _)) (fun _ _ h => h)
 have o3 := H.out.below b3
 have A3 : Hid (Apart w3 g gp S) := lH ⟨AP.out.s1, AP.out.s2, o3.lt, o3.ltp, AP.out.ne⟩
 have L3 : Hid (LeftJ Z w3 g gd gp n S p j w3) := lH (LeftJ.same d3 o3)
 have RW : Hid (∀ W q (k i : Nat), LeftJ Z w3 g gd gp n S q j W -> (frK j.fresh (j.homes n))[k]? = some i -> W.cell? ⟨gr, k, none⟩ = some (.int .i64 (i : Int))) := lH (fun W q k i hW hi => by
  have h1 := hgc k (.int .i64 (i : Int)) (by unfold ints; rw [List.getElem?_map, hi]; rfl)
  exact cell_only hW.y (fun hh => by
   rcases hh with h2 | h2 | h2
   · have := SL.out _ h2; omega
   · have := AP.out.l1; omega
   · have := AP.out.l2; omega) h1)
 have B30 := lH b3
 clear b3 hgc d3 o3
 go_loopw [41] (fun i wr => ∃ k : Nat, k <= q3 /\ i = .int .i64 (k : Int) /\ LeftJ Z w3 g gd gp n S (cpK p n j ((frK j.fresh (j.homes n)).take k)) j wr) (fun i _ => q3 - (Go.RowKit.intOf i).toNat)
 case atStart => exact ⟨0, by omega, rfl, L3.out⟩
 case round =>
  obtain ⟨k, hk, rfl, ql⟩ := hrel
  have QL := lH ql
  have hok := CO.out k hk
  by_cases hlt' : k < q3
  · obtain ⟨i, hi⟩ : ∃ i, (frK j.fresh (j.homes n))[k]? = some i := ⟨_, List.getElem?_eq_getElem (by rw [LF.out]; exact hlt')⟩
    have hm := frK_mem (List.mem_of_getElem? hi)
    have hs := cpK_snoc p n j (frK j.fresh (j.homes n)) k i hi
    have kc := RW.out wr _ k i ql hi
    have hsz : (lst (j.fresh.getD i emp)).length = 512 := by
     rw [lst_len]
     refine (hfs _ ?_).resolve_left hm.2
     rw [List.getD_eq_getElem?_getD, List.getElem?_eq_getElem (by rw [hfl]; exact hm.1)]
     exact List.getElem_mem _
    have hi1 : i <= 4096 := by omega
    have CA : Hid (∀ W, Calls Tryz.prog 114 #[.agg (mkC j.k), .int .i64 (i : Int)] W (RetV2 W (.int .i64 (j.k.atHome i : Nat)))) := lH (fun W => atHome_any j.k i W fit (by omega))
    have ha2 : j.k.atHome i <= 10000 := by show 2 + j.k.ring + i <= 10000; omega
    have CW : Hid (∀ W, LeftJ Z w3 g gd gp n S (cpK p n j ((frK j.fresh (j.homes n)).take k)) j W -> Calls Tryz.prog 105 #[.pointer (some ⟨g, 0, none⟩), .int .i64 (j.k.atHome i : Nat), .agg (cellsB (lst (j.fresh.getD i emp))).toArray] W (fun en W' => en = .returned (.tuple #[]) /\ LeftJ Z w3 g gd gp n S (cpK p n j ((frK j.fresh (j.homes n)).take (k + 1))) j W')) := lH (fun W hW => by
     have := jwr_on A3.out hW hok.1 (by have := hok.2; omega) (j.k.atHome i : Nat) (lst (j.fresh.getD i emp)) (by omega) hsz
     rw [<- hs] at this
     exact this)
    have LK : Hid (∀ W e, JO W g gd gp n e j -> (Instr.lookup 140 (.map (some gp)) (.int .i64 (i : Int)) false).run Tryz.prog W = .ok (.agg (cellsB (lst (j.fresh.getD i emp))).toArray) W) := lH (fun W e hW => hW.look n2 hm.1 hm.2)
    clear ql hok hi hm hs hsz
    go_upto_region 9 with fail
    go_wp2_with fail
    refine wp_region_held_drew (S := fun W => ∃ e, JO W g gd gp n e j) (by kernel_rfl) ⟨_, QL.out.drew.o⟩ (fun hHeld => ?_)
    refine tk9 (i := 0) (h := ?_)
    try simp only [aP,aN,aS,aZ,aC]
    refine tk9 (i := 1) (h := ?_)
    try simp only [aP,aN,aS,aZ,aC]
    refine tk9 (i := 2) (h := ?_)
    try simp only [aP,aN,aS,aZ,aC]
    refine tk9 (i := 3) (h := ?_)
    try simp only [aP,aN,aS,aZ,aC]
    refine tk9 (i := 4) (h := ?_)
    try simp only [aP,aN,aS,aZ,aC]
    refine tk9 (i := 5) (h := ?_)
    try simp only [aP,aN,aS,aZ,aC]
    refine tk9 (i := 6) (hy := (yieldsIf_loadG (by rfl) 137 (.tmp 50) rfl ⟨g, 2, none⟩ rfl _ (fun W hW => hW.choose_spec.mark))) (h := ?_)
    try simp only [aP,aN,aS,aZ,aC]
    refine tk9 (i := 7) (h := ?_)
    try simp only [aP,aN,aS,aZ,aC]
    refine tk9 (i := 9) (h := ?_)
    try simp only [aP,aN,aS,aZ,aC]
    refine tk9 (i := 10) (h := ?_)
    try simp only [aP,aN,aS,aZ,aC]
    refine tk9 (i := 11) (h := ?_)
    try simp only [aP,aN,aS,aZ,aC]
    refine tk9 (i := 12) (hy := (yieldsIf_loadG (by rfl) 140 (.tmp 56) rfl ⟨g, 8, none⟩ rfl _ (fun W hW => load_jmap hW.choose_spec.c8))) (h := ?_)
    try simp only [aP,aN,aS,aZ,aC]
    refine tk9 (i := 13) (h := ?_)
    try simp only [aP,aN,aS,aZ,aC]
    refine tk9 (i := 14) (hy := (yieldsIf_lk (by rfl) 140 (.tmp 57) (.tmp 58) rfl _ _ _ rfl rfl (fun W hW => LK.out W _ hW.choose_spec))) (h := ?_)
    try simp only [aP,aN,aS,aZ,aC]
    refine rd9 (i := 8) (h := fun K hK => ?_)
    go_simp
    refine (CA.out _).mono ?_
    rintro en w6 ⟨rfl, b6⟩
    have L6 := lH (QL.out.drew.belowR b6)
    clear b6
    refine hK _ _ ⟨_, L6.out.o⟩ (fun hH8 => ?_)
    clear hK K
    try simp only [aP,aN,aS,aZ,aC]
    refine rd9 (i := 15) (h := fun K hK => ?_)
    go_simp
    refine (CW.out _ L6.out).mono ?_
    rintro en w8 ⟨rfl, l8⟩
    have L8 := lH l8
    clear l8
    refine hK _ _ ⟨_, L8.out.o⟩ (fun hH15 => ?_)
    clear hK K
    try simp only [aP,aN,aS,aZ,aC]
    refine wpAnyH_done (by kernel_rfl) ?_ _
    go_wp2_with fail
    go_roundw
    case rel => exact ⟨k + 1, by omega, by go_num, L8.out⟩
    case measure => simp [Go.RowKit.intOf]; omega
  · obtain rfl : k = q3 := by omega
    have hfull : (frK j.fresh (j.homes n)).take k = frK j.fresh (j.homes n) := by rw [<- LF.out]; exact List.take_length
    rw [hfull] at QL hok
    have eC : cpP p n j = ((cpK p n j (frK j.fresh (j.homes n))).fl n).anchor n j.next := by unfold cpP; rw [hfl]
    obtain ⟨P0, hP0⟩ : ∃ P0, cpK p n j (frK j.fresh (j.homes n)) = P0 := ⟨_, rfl⟩
    rw [hP0] at QL hok eC
    have CF : Hid (∀ W, LeftJ Z w3 g gd gp n S P0 j W -> Calls Tryz.prog 104 #[.pointer (some ⟨g, 0, none⟩)] W (fun en W' => en = .returned (.tuple #[]) /\ LeftJ Z w3 g gd gp n S (P0.fl n) j W')) := lH (fun W hW => jfl_on A3.out hW hok.1)
    have nfit : j.next.Fit := ⟨by show j.k.num + 1 < _; omega, fit.t, fit.p, fit.r⟩
    have CN : Hid (∀ W (S' : Nat -> Prop), Apart W g gp S' -> LeftJ Z W g gd gp n S' (P0.fl n) j W -> Calls Tryz.prog 106 #[.pointer (some ⟨g, 0, none⟩), .agg #[.int .u64 ((j.k.num : Int) + 1), .int .u64 (j.k.turn : Int), .int .u32 (j.k.pos : Int), .int .u32 (j.k.ring : Int)]] W (fun en W' => en = .returned (.tuple #[]) /\ LeftJ Z W g gd gp n S' (cpP p n j) j W')) := lH (fun W S' hA hW => by
     have := jan_on hA hW (Pt.fl_ok hok.1) (by have := Pt.fl_wrote P0 n; have := hok.2; omega) j.next nfit
     rw [<- eC] at this
     have e2 : mkC j.next = #[.int .u64 ((j.k.num : Int) + 1), .int .u64 (j.k.turn : Int), .int .u32 (j.k.pos : Int), .int .u32 (j.k.ring : Int)] := by
      show #[Value.int .u64 ((j.k.num + 1 : Nat) : Int), _, _, _] = _
      rw [show ((j.k.num + 1 : Nat) : Int) = (j.k.num : Int) + 1 by omega]
      rfl
     rw [e2] at this
     exact this)
    have e1 : IntKind.u64.wrap ((j.k.num : Int) + 1) = (j.k.num : Int) + 1 := by rw [IntKind.wrap_u64]; omega
    clear ql hok eC hP0 hfull nfit
    go_upto_region 14 with (first
     | (go_at_call 104; refine (CF.out _ QL.out).mono ?_; rintro en w5 ⟨rfl, l5⟩
        have k2 := l5.o.c2
        have k3 := l5.o.c3
        have k4 := l5.o.c4
        have k5 := l5.o.c5
        have L5 := lH l5
        clear l5))
    obtain ⟨S5, d5, hs5, hg5, hp5⟩ := L5.out.nog A3.out.s1 A3.out.s2 A3.out.l1 A3.out.l2
    generalize hw6 : World.alloc _ _ = w6
    have b6 : Below w5.heap.size w5 w6 := by rw [<- hw6]; exact (Below.refl _ _).alloc (Nat.le_refl _) _
    have h6 : w6.heap[w5.heap.size]? = some (.cells #[.int .u64 ((j.k.num : Int) + 1), .int .u64 (j.k.turn : Int), .int .u32 (j.k.pos : Int), .int .u32 (j.k.ring : Int)] 137 (0, 0)) := by rw [<- hw6]; exact heap_alloc_new w5 _
    have hlt6 : w5.heap.size < w6.heap.size := (Array.getElem?_eq_some_iff.1 h6).1
    have MC : Hid (∀ W : World, W.heap[w5.heap.size]? = some (.cells #[.int .u64 ((j.k.num : Int) + 1), .int .u64 (j.k.turn : Int), .int .u32 (j.k.pos : Int), .int .u32 (j.k.ring : Int)] 137 (0, 0)) -> W.cell? ⟨w5.heap.size, 0, none⟩ = some (.int .u64 ((j.k.num : Int) + 1)) /\ W.cell? ⟨w5.heap.size, 1, none⟩ = some (.int .u64 (j.k.turn : Int)) /\ W.cell? ⟨w5.heap.size, 2, none⟩ = some (.int .u32 (j.k.pos : Int)) /\ W.cell? ⟨w5.heap.size, 3, none⟩ = some (.int .u32 (j.k.ring : Int))) := lH (fun W hW => ⟨cell_of_row W _ 0 _ _ (0, 0) hW, cell_of_row W _ 1 _ _ (0, 0) hW, cell_of_row W _ 2 _ _ (0, 0) hW, cell_of_row W _ 3 _ _ (0, 0) hW⟩)
    obtain ⟨m0, m1, m2, m3⟩ := MC.out w6 h6
    have d6 : Z.D w6 gd S5 n (P0.fl n).m := Z.only d5 (Only.of_below (S := fun _ => False) b6 (Nat.le_refl _)) (fun _ _ h => h)
    have o6 := L5.out.o.below b6
    have A6 : Hid (Apart w6.drew g gp S5) := lH ⟨hg5, hp5, o6.lt, o6.ltp, AP.out.ne⟩
    have L6 : Hid (LeftJ Z w6.drew g gd gp n S5 (P0.fl n) j w6.drew) := lH (LeftJ.same (Z.only d6 (Only.refl (fun _ => False) w6).drew (fun _ _ h => h)) o6.drew)
    have HS5 := lH hs5
    have B6 := lH b6
    have S5L : Hid (∀ k, S5 k -> k < w5.heap.size) := lH (fun k hk => Z.lt d5 k hk)
    have H6 := lH h6
    have hlg : g < w5.heap.size := L5.out.o.lt
    have hlp : gp < w5.heap.size := L5.out.o.ltp
    clear d5 hs5 hg5 hp5 hw6 b6 h6 d6 o6 k2 k3 k4 k5
    obtain ⟨P, hP⟩ : ∃ P, cpP p n j = P := ⟨_, rfl⟩
    rw [hP] at CN
    have HP := lH hP
    clear hP
    go_wp2_with fail
    go_still_tail 4, (by kernel_rfl)
    change wpList _ _ _ _ _ w6.drew
    go_upto_region 15 with (first
     | (go_at_call 106; refine (CN.out _ _ A6.out L6.out).mono ?_; rintro en w7 ⟨rfl, l7⟩
        have h7 := (l7.y.block w5.heap.size hlt6 (fun hh => by
         rcases hh with h1 | h1 | h1
         · have := S5L.out _ h1; omega
         · omega
         · omega)).trans H6.out
        have H7 := lH h7
        have L7 := lH l7
        clear l7 h7))
    have L7T : Hid (LeftJ Z w3 g gd gp n S P j w7) := lH (L5.out.trans HS5.out (LeftJ.from B6.out.drew L7.out))
    have o7 := L7.out.o
    have k1 := o7.c1
    obtain ⟨E, hE⟩ : ∃ E, P.e = E := ⟨_, rfl⟩
    rw [hE] at k1
    have LTT : Hid (LeftJ Z w g gd gp n S P j w7) := lH (LeftJ.from B30.out L7T.out)
    by_cases hE0 : E = 0
    · have k2 := o7.c2
      have k3 := o7.c3
      have k4 := o7.c4
      have k5 := o7.c5
      have k7 := o7.c7
      have k8 := o7.c8
      have f2 := o7.fr 2
      have f3 := o7.fr 3
      have f4 := o7.fr 4
      have f5 := o7.fr 5
      have f7 := o7.fr 7
      have hE1 : (E != 0) = false := by rw [hE0]; rfl
      obtain ⟨n0, n1, n2', n3⟩ := MC.out w7 H7.out
      have O7 := lH o7
      have HE := lH (hE.trans hE0)
      have ne1 : w5.heap.size ≠ g := by omega
      clear o7 hE hE0
      go_upto_region 19 with fail
      generalize hw8 : World.setCell _ _ _ = w8
      have hlt7 : g < w7.heap.size := O7.out.lt
      have r1' := heap_setCell_same w7 g 2 _ 142 (.int .u64 ((j.k.num : Int) + 1)) O7.out.blk
      have r2' := heap_setCell_same _ g 3 _ 142 (.int .u64 (j.k.turn : Int)) r1'
      have r3' := heap_setCell_same _ g 4 _ 142 (.int .u32 (j.k.pos : Int)) r2'
      have r4' := heap_setCell_same _ g 5 _ 142 (.int .u32 (j.k.ring : Int)) r3'
      have r5' := heap_setCell_same _ g 7 _ 142 (.int .i64 0) r4'
      have ow : Only (fun k => k = g) w7 w8 := by rw [<- hw8]; exact (((((Only.refl _ w7).cell1 2 _).cell1 3 _).cell1 4 _).cell1 5 _).cell1 7 _
      rw [hw8] at r5'
      have blk8 : w8.heap[g]? = some (.cells (jC gd gp P.e j.clean) 142 (0, 0)) := by
       rw [r5']
       unfold jC
       show some (Obj.cells (((((#[_, _, _, _, _, _, _, _, _] : Array Value).setIfInBounds 2 _).setIfInBounds 3 _ |>.setIfInBounds 4 _).setIfInBounds 5 _).setIfInBounds 7 _) _ _) = some (Obj.cells #[_, _, .int .u64 ((j.k.num + 1 : Nat) : Int), .int .u64 (j.k.turn : Int), .int .u32 (j.k.pos : Int), .int .u32 (j.k.ring : Int), _, .int .i64 ((0 : Nat) : Int), _] _ _)
       rw [show ((j.k.num + 1 : Nat) : Int) = (j.k.num : Int) + 1 by omega]
       rfl
      obtain ⟨D7, hm7, hD7⟩ := O7.out.map
      have hm8 := ownsMap_only hm7 ow (fun hh => AP.out.ne hh.symm)
      have HM8 := lH hm8
      have c88 : w8.cell? ⟨g, 8, none⟩ = some (.map (some gp)) := cell_of_row w8 g 8 _ _ (0, 0) blk8
      have BL8 := lH blk8
      have OW8 := lH ow
      have LY := lH LTT.out.y
      have LD := lH LTT.out.d
      clear r1' r2' r3' r4' r5' hw8 ow hm8 hm7 hD7 blk8 k2 k3 k4 k5 k7 k8 f2 f3 f4 f5 f7 n0 n1 n2' n3
      go_wp2_with (refine wp_clearJ rfl (.tmp 100) rfl rfl HM8.out ?_; intro w9 own9 o9)
      go_ret
      have eJ : J' = j.clean := by rw [<- HJ.out, HP.out, if_pos HE.out]
      rw [eJ, HP.out]
      obtain ⟨S8, d8, hs8⟩ := LD.out
      have ng8 : ¬ S8 g := fun hh => (hs8 g hh).elim AP.out.s1 (fun h1 => by have := AP.out.l1; omega)
      have np8 : ¬ S8 gp := fun hh => (hs8 gp hh).elim AP.out.s2 (fun h1 => by have := AP.out.l2; omega)
      refine ⟨?_, ⟨⟨S8, Z.only (Z.only d8 OW8.out (fun k hk e => ng8 (e ▸ hk))) o9 (fun k hk e => np8 (e ▸ hk)), hs8⟩, ⟨(o9.block g (Array.getElem?_eq_some_iff.1 BL8.out).1 AP.out.ne).trans BL8.out, ⟨_, own9, MapOf.none _ _ (fun i hi => ?_)⟩, JOK.out, AP.out.ne⟩, (LY.out.trans' OW8.out (fun k _ hk => .inr (.inl hk))).trans' o9 (fun k _ hk => .inr (.inr hk))⟩⟩
      · show Ending.returned (.int .i64 0) = .returned (.int .i64 P.e)
        rw [HE.out]
      · show ((List.replicate j.fresh.length emp).getD i emp).size = 0
        rw [List.getD_eq_getElem?_getD, List.getElem?_replicate]
        split <;> rfl
    · have hE1 : (E != 0) = true := by rw [bne_iff_ne]; exact hE0
      have HE := lH hE
      have HE0 := lH hE0
      clear o7 hE hE0
      go_wp2_with fail
      go_ret
      have eJ : J' = j := by rw [<- HJ.out, HP.out, if_neg (by rw [HE.out]; exact HE0.out)]
      rw [eJ, HP.out]
      refine ⟨?_, LTT.out⟩
      show Ending.returned (.int .i64 E) = .returned (.int .i64 P.e)
      rw [HE.out]
end
end Go.Proofs.YthoebjekkfhhgaaGreat
